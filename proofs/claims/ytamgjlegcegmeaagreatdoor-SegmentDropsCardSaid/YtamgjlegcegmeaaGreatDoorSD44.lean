/- The law SegmentDrops over plain lists: all that it asks. The entries of the law SegmentDrops. The document: the same entries. The law SegmentDrops. -/
import Derived.Test.YtamgjlegcegmeaaGreatDoorSD43
import Derived.Test.YtamgjlegcegmeaaGreatDoorSD39
import Derived.BigQuiet
import Derived.Test.YtamgjlegcegmeaaGreatDoorSD40
import Derived.Deep.OwnRows
/- Part: SegGr5. -/
namespace Go.Proofs.YtamgjlegcegmeaaGreatDoor.M
open Go.RowKit
open D (Fl Dk)

structure DrPlan (least : Int) (E : List En) (n : Nat) (tm : Int) (h1 : Hd) (d1 : Dk) (h2 : Hd) (d2 : Dk) (h3 : Hd) (d3 : Dk) : Prop where
  app : appendE least k0 (fresh 100000) E = (0, h1, d1)
  ok1 : HdOk h1
  syn : syncE h1 d1 = (0, h2, d2)
  ok2 : HdOk h2
  sq2 : h2.Seq
  t0 : termAt h2 (n : Int) = (tm, true)
  t1 : termAt h2 ((E.length : Int) + 1) = (0, false)
  drp : dropE (n : Int) h2.files.length (begun h2 (n : Int) tm) d2 = (0, h3, d3)
  ok3 : HdOk h3
  sq3 : h3.Seq
  r3 : h3.rows.map (·.e) = E.drop n
  m3 : h3.mi = (n : Int) ∧ h3.mt = tm
  cr : D.crash d3 [] = (0, d3)
  opn : (n = E.length ∧ d3.fs = []) ∨ (n < E.length ∧ ∃ gs h4 d4, GsOk gs d3 ∧ (∀ g ∈ gs, g.2 ≠ []) ∧ laidG gs ≠ [] ∧ HdOk (scnH gs) ∧ HdOk (begun (scnH gs) (n : Int) tm) ∧ fitsE (scnH gs) (n : Int) tm = true ∧ (0 ≤ (begun (scnH gs) (n : Int) tm).last.1 ∧ (begun (scnH gs) (n : Int) tm).last.1 < 10000000000) ∧
    syncE (begun (scnH gs) (n : Int) tm) d3 = (0, h4, d4) ∧ HdOk h4 ∧ h4.Seq ∧ h4.rows.map (·.e) = E.drop n ∧ h4.mi = (n : Int) ∧ d4.fs.length ≤ 4000)

theorem rowsB_len : ∀ es : List En, (rowsB es).length = (es.map fun e => (sgRow e).length).sum
  | [] => rfl
  | e :: es => by
    have := rowsB_len es
    unfold rowsB at this ⊢
    simp only [List.flatMap_cons, List.length_append, List.map_cons, List.sum_cons, this]

theorem rowsB_mem {gs : List (Int × List En)} {g : Int × List En} (h : g ∈ gs) : (rowsB g.2).length ≤ (rowsB (entG gs)).length := by
  obtain ⟨A, B, rfl⟩ := List.append_of_mem h
  unfold entG rowsB
  rw [List.flatMap_append, List.flatMap_cons, List.flatMap_append, List.flatMap_append]
  simp only [List.length_append]
  omega

theorem drops_plan (least : Int) {E : List En} (h : DrIn E) (n : Nat) (hn : n ≤ E.length) (tm : Int) (h0 : n = 0 → tm = 0) (h1 : ∀ i (hi : i < E.length), i + 1 = n → E[i].term = tm) : ∃ h1 d1 h2 d2 h3 d3, DrPlan least E n tm h1 d1 h2 d2 h3 d3 := by
  obtain ⟨a1, gs, a2, a3⟩ := drops_laid least h
  obtain ⟨g1, hg1⟩ : ∃ r, r = (appendE least k0 (fresh 100000) E).2.1 := ⟨_, rfl⟩
  obtain ⟨d1, hd1⟩ : ∃ r, r = (appendE least k0 (fresh 100000) E).2.2 := ⟨_, rfl⟩
  rw [← hg1, ← hd1] at a2
  obtain ⟨b1, b2, b3⟩ := a2.sync
  obtain ⟨d2, hd2⟩ : ∃ r, r = (syncE g1 d1).2.2 := ⟨_, rfl⟩
  rw [← hd2] at b3
  have hN := h.n
  have hlen : (entG gs).length = E.length := by rw [a3]
  have hrB : (rowsB (entG gs)).length ≤ 6360 := by rw [a3, rowsB_len]; exact h.sum
  have hgl := a2.grp.len
  have htm : 0 ≤ tm ∧ tm < 10000000000 := by
    rcases Nat.eq_zero_or_pos n with hz | hz
    · rw [h0 hz]; omega
    · have h2 := h1 (n - 1) (by omega) (by omega)
      have h3 := (h.enb _ (List.getElem_mem (show n - 1 < E.length by omega))).2.1
      rw [h2] at h3
      omega
  have hrow1 : g1.rows.map (·.e) = E := by rw [a2.rows, laidG_map, a3]
  have hmem : ∀ r ∈ g1.rows, r.e ∈ E := fun r hr => by rw [← hrow1]; exact List.mem_map.2 ⟨r, hr, rfl⟩
  have hrl : g1.rows.length ≤ 4000 := by have := congrArg List.length hrow1; rw [List.length_map] at this; omega
  have hsz : ∀ g ∈ gs, (rowsB g.2).length ≤ 1000000 := fun g hg => by have := rowsB_mem hg; omega
  have ok1 : HdOk g1 := hdOk_of h.enb hmem hrl a2.grp (Int.le_refl _) (by omega) hsz (fun f hf => by
    rw [a2.files] at hf
    obtain ⟨g, hg, rfl⟩ := List.mem_map.1 hf
    exact ⟨g, hg, rfl, rfl⟩) (by rw [a2.files, List.length_map]; omega) (by rw [a2.mark.1, a2.mark.2]; omega)
  have htf := tighten_files a2.files
  have ok2 : HdOk (tighten g1) := hdOk_of h.enb hmem hrl a2.grp (Int.le_refl _) (by omega) hsz (fun f hf => by
    rw [htf] at hf
    obtain ⟨g, hg, rfl⟩ := List.mem_map.1 hf
    exact ⟨g, hg, rfl, rfl⟩) (by rw [htf, List.length_map]; omega) (by rw [show (tighten g1).mi = 0 from a2.mark.1, show (tighten g1).mt = 0 from a2.mark.2]; omega)
  have hc0 : chain g1.mi 1 (g1.rows.map (·.e)) := by rw [hrow1, a2.mark.1]; exact h.ch
  have sq2 : (tighten g1).Seq := seq_chain (h := tighten g1) (tm := 1) hc0
  obtain ⟨pre, gs', h3, d3, e1, e2, e3, e4, e5, e6⟩ := dropE_grp (n : Int) gs 0 (begun (tighten g1) (n : Int) tm) d2 htf b3
  have hmi : (tighten g1).mi = 0 := a2.mark.1
  have hr3 : h3.rows.map (·.e) = E.drop n := by
    rw [e3]
    show ((g1.rows.filter fun r => decide ((n : Int) < r.e.idx)).map (·.e)) = _
    rw [filter_rows (ix := 0) (tm := 1) (by rw [hrow1]; exact h.ch) (by omega), hrow1]
    simp
  have hcd := chain_drop h.ch n hn
  obtain ⟨td, hcd, htd⟩ := hcd
  rw [Int.zero_add] at hcd
  have hgp : gs.length = pre.length + gs'.length := by rw [e2, List.length_append]
  have hE2 : E = entG pre ++ entG gs' := by rw [← a3, e2]; unfold entG; rw [List.flatMap_append]
  have hEl : E.length = (entG pre).length + (entG gs').length := by rw [hE2, List.length_append]
  have hmem3 : ∀ r ∈ h3.rows, r.e ∈ E := fun r hr => List.mem_of_mem_drop (by rw [← hr3]; exact List.mem_map.2 ⟨r, hr, rfl⟩)
  have hrl3 : h3.rows.length ≤ 4000 := by have := congrArg List.length hr3; rw [List.length_map, List.length_drop] at this; omega
  have hsz' : ∀ g ∈ gs', (rowsB g.2).length ≤ 1000000 := fun g hg => hsz g (by rw [e2]; exact List.mem_append_right _ hg)
  have hm3 : h3.mi = (n : Int) ∧ h3.mt = tm := by rw [e3]; exact ⟨rfl, rfl⟩
  have ok3 : HdOk h3 := hdOk_of h.enb hmem3 hrl3 e4.grp (by omega) (by omega) hsz' (fun f hf => by
    rw [e3] at hf
    obtain ⟨g, hg, rfl⟩ := List.mem_map.1 (show f ∈ gs'.map fiT from hf)
    exact ⟨g, hg, rfl, rfl⟩) (by rw [e3]; show (gs'.map fiT).length ≤ 4000; rw [List.length_map]; omega) (by rw [hm3.1, hm3.2]; omega)
  have sq3 : h3.Seq := seq_chain (h := h3) (tm := td) (by rw [hr3, hm3.1]; exact hcd)
  -- what is dropped lies up to n
  have hpre : ((entG pre).length : Int) ≤ (n : Int) := by
    rcases List.eq_nil_or_concat pre with rfl | ⟨A, q, rfl⟩
    · simp [entG]
    · rw [List.concat_eq_append] at e5 e2 ⊢
      have h5 := e5 q (by simp)
      have hg2 := a2.grp
      rw [e2, List.append_assoc] at hg2
      have hat := hg2.at A.length (by simp)
      simp only [List.singleton_append, List.getElem_append_right (Nat.le_refl _), Nat.sub_self, List.getElem_cons_zero, List.take_left] at hat
      rw [entG_snoc, List.length_append]
      push_cast
      omega
  refine ⟨g1, d1, tighten g1, d2, h3, d3, ?_, ok1, ?_, ok2, sq2, ?_, ?_, ?_, ok3, sq3, hr3, hm3, e4.crash, ?_⟩
  · rw [hg1, hd1, ← a1]
  · rw [hd2, ← b2, ← b1]
  · rcases Nat.eq_zero_or_pos n with hz | hz
    · subst hz
      rw [h0 rfl]
      unfold termAt
      rw [hmi, if_pos (by simp)]
      show (g1.mt, true) = _
      rw [a2.mark.2]
    · have h2 := termAt_row (h := tighten g1) hrow1 (n - 1) (by omega)
      rw [hmi, h1 (n - 1) (by omega) (by omega)] at h2
      rw [← h2]
      congr 1
      omega
  · have h2 := termAt_out (h := tighten g1) hrow1
    rw [hmi] at h2
    rw [← h2]
    congr 1
    omega
  · rw [htf, List.length_map]
    exact e1
  · by_cases hne : n = E.length
    · refine .inl ⟨hne, ?_⟩
      cases gs' with
      | nil =>
        have := e4.fs
        unfold nb gnb at this
        simpa using this
      | cons g r =>
        have h6 := e6 g r rfl
        obtain ⟨b1', b2', -⟩ := e4.grp.mem g (by simp)
        omega
    · have hlt : n < E.length := by omega
      have hEp : E.drop (entG pre).length = entG gs' := by rw [hE2, List.drop_left]
      obtain ⟨tp, hcp, htp⟩ := chain_drop h.ch (entG pre).length (by omega)
      rw [hEp] at hcp
      have hcp0 := chain_weak hcp (show (0 : Int) ≤ tp by omega)
      have hg0 : 0 < (entG gs').length := by omega
      have hgne : entG gs' ≠ [] := List.length_pos_iff.1 hg0
      have hrw : (laidG gs').map (·.e) = entG gs' := laidG_map gs'
      have hmem' : ∀ r ∈ laidG gs', r.e ∈ E := fun r hr => by
        have : r.e ∈ entG gs' := by rw [← hrw]; exact List.mem_map.2 ⟨r, hr, rfl⟩
        rw [hE2]
        exact List.mem_append_right _ this
      have hll := laidG_length gs'
      have hfi : ∀ f ∈ gs'.map fiG, ∃ g ∈ gs', f.first = g.1 ∧ f.size = ((rowsB g.2).length : Int) := fun f hf => by
        obtain ⟨g, hg, rfl⟩ := List.mem_map.1 hf
        exact ⟨g, hg, rfl, rfl⟩
      have hgl' := e4.grp.len
      have hbr : (begun (scnH gs') (n : Int) tm).rows.map (·.e) = E.drop n := by
        show ((laidG gs').filter fun r => decide ((n : Int) < r.e.idx)).map (·.e) = _
        rw [filter_rows (ix := 0 + ((entG pre).length : Int)) (tm := 0) (by rw [hrw]; exact hcp0) (by omega), hrw, ← hEp, List.drop_drop]
        congr 1
        omega
      have hok0 : HdOk (scnH gs') := hdOk_of h.enb hmem' (by show (laidG gs').length ≤ 4000; omega) e4.grp (by omega) (by omega) hsz' hfi (by show (gs'.map fiG).length ≤ 4000; rw [List.length_map]; omega) (by show ((0 : Int) ≤ 0 ∧ (0 : Int) < 10000000000) ∧ (0 : Int) ≤ 0 ∧ (0 : Int) < 10000000000; omega)
      have hbm : ∀ r ∈ (begun (scnH gs') (n : Int) tm).rows, r.e ∈ E := fun r hr => List.mem_of_mem_drop (by rw [← hbr]; exact List.mem_map.2 ⟨r, hr, rfl⟩)
      have hbl : (begun (scnH gs') (n : Int) tm).rows.length = E.length - n := by have := congrArg List.length hbr; rw [List.length_map, List.length_drop] at this; exact this
      have hokb : HdOk (begun (scnH gs') (n : Int) tm) := hdOk_of h.enb hbm (by omega) e4.grp (by omega) (by omega) hsz' hfi (by show (gs'.map fiG).length ≤ 4000; rw [List.length_map]; omega) (by show ((0 : Int) ≤ (n : Int) ∧ (n : Int) < 10000000000) ∧ 0 ≤ tm ∧ tm < 10000000000; omega)
      have hsqb : (begun (scnH gs') (n : Int) tm).Seq := seq_chain (h := begun (scnH gs') (n : Int) tm) (tm := td) (by rw [hbr]; exact hcd)
      have hlast := hsqb.last
      have hfs : GFs gs' (0 + ((entG pre).length : Int)) (begun (scnH gs') (n : Int) tm) d3 := ⟨rfl, e4.fs, e4.grp, e4.ends, e4.well⟩
      obtain ⟨s1, s2, s3⟩ := hfs.sync
      have hfl : (syncE (begun (scnH gs') (n : Int) tm) d3).2.2.fs.length ≤ 4000 := by
        have h7 := congrArg List.length s3.fs
        unfold nb gnb at h7
        simp only [List.length_map] at h7
        omega
      have htf2 : (tighten (begun (scnH gs') (n : Int) tm)).files = gs'.map fiT := tighten_files (h := begun (scnH gs') (n : Int) tm) rfl
      refine .inr ⟨hlt, gs', tighten (begun (scnH gs') (n : Int) tm), (syncE (begun (scnH gs') (n : Int) tm) d3).2.2, GsOk.of e4 hcp0 (by omega) (fun e he => h.enb e (by rw [hE2]; exact List.mem_append_right _ he)) (by omega) ?_, fun g hg => (e4.grp.mem g hg).2.2, ?_, hok0, hokb, ?_, ?_, ?_, ?_, seq_chain (h := tighten (begun (scnH gs') (n : Int) tm)) (tm := td) (by show chain (n : Int) td ((begun (scnH gs') (n : Int) tm).rows.map (·.e)); rw [hbr]; exact hcd), hbr, rfl, hfl⟩
      · have h2 : (rowsB (entG gs)).length = (rowsB (entG pre)).length + (rowsB (entG gs')).length := by
          rw [a3, hE2]
          unfold rowsB
          rw [List.flatMap_append, List.length_append]
        omega
      · intro e
        rw [e] at hll
        simp at hll
        omega
      · refine fits_grp hcp0 hgne (by omega) (by omega) (fun hni hp => ?_) fun i hi hidx => ?_
        · have hnp : n = (entG pre).length := by omega
          have h2 : (entG gs')[0] = E[n] := by
            have h9 : (E.drop (entG pre).length)[0]? = (entG gs')[0]? := by rw [hEp]
            rw [List.getElem?_drop, Nat.add_zero, ← hnp, List.getElem?_eq_getElem hlt, List.getElem?_eq_getElem hp] at h9
            exact (Option.some.inj h9).symm
          rw [h2]
          rcases Nat.eq_zero_or_pos n with hz | hz
          · rw [h0 hz]
            have := chain_term h.ch n hlt
            omega
          · obtain ⟨tq, hq, -⟩ := chain_drop h.ch (n - 1) (by omega)
            rw [List.drop_eq_getElem_cons (show n - 1 < E.length by omega)] at hq
            obtain ⟨-, -, hq3⟩ := hq
            have h5 := chain_term hq3 0 (by rw [List.length_drop]; omega)
            rw [h1 (n - 1) (by omega) (by omega)] at h5
            simp only [List.getElem_drop] at h5
            have h6 : n - 1 + 1 + 0 = n := by omega
            simp only [h6] at h5
            exact h5
        · have hx := chain_idx hcp0 i hi
          have hix : (entG pre).length + i + 1 = n := by omega
          have h9 : (E.drop (entG pre).length)[i]? = (entG gs')[i]? := by rw [hEp]
          rw [List.getElem?_drop, List.getElem?_eq_getElem (show (entG pre).length + i < E.length by omega), List.getElem?_eq_getElem hi] at h9
          rw [← Option.some.inj h9]
          exact h1 _ _ hix
      · rw [hlast, hbl]
        show 0 ≤ (n : Int) + _ ∧ (n : Int) + _ < 10000000000
        omega
      · rw [← s2, ← s1]
      · exact hdOk_of h.enb hbm (by show (begun (scnH gs') (n : Int) tm).rows.length ≤ 4000; omega) e4.grp (by omega) (by omega) hsz' (fun f hf => by
          rw [htf2] at hf
          obtain ⟨g, hg, rfl⟩ := List.mem_map.1 hf
          exact ⟨g, hg, rfl, rfl⟩) (by rw [htf2, List.length_map]; omega) (by show ((0 : Int) ≤ (n : Int) ∧ (n : Int) < 10000000000) ∧ 0 ≤ tm ∧ tm < 10000000000; omega)
end Go.Proofs.YtamgjlegcegmeaaGreatDoor.M

/- Part: SegDrE. -/
namespace Go.Proofs.YtamgjlegcegmeaaGreatDoor.M
open Go.RowKit
open D (Fl Dk)

def drS (ts : List Int) (k : Nat) : Int := ((ts[k]?.getD 0).tmod 3 + 3).tmod 3

def drT (ts : List Int) : Nat → Int
  | 0 => 1
  | k + 1 => drT ts k + drS ts k

theorem mod3_in (x : Int) : (0 ≤ (x.tmod 3 + 3).tmod 3 ∧ (x.tmod 3 + 3).tmod 3 ≤ 2) ∧ -3 < x.tmod 3 ∧ x.tmod 3 < 3 := by
  have a1 := Int.tmod_lt_of_pos x (show (0 : Int) < 3 by omega)
  have a2 : -3 < x.tmod 3 := Int.lt_tmod_of_pos x (by omega)
  generalize x.tmod 3 = x at *
  have b1 := Int.tmod_lt_of_pos (x + 3) (show (0 : Int) < 3 by omega)
  have b2 := Int.tmod_nonneg 3 (show 0 ≤ x + 3 by omega)
  exact ⟨⟨b2, by omega⟩, a2, a1⟩

theorem drT_in (ts : List Int) : ∀ k, 1 ≤ drT ts k ∧ drT ts k ≤ 1 + 2 * (k : Int)
  | 0 => by simp [drT]
  | k + 1 => by
    have h1 := drT_in ts k
    have h2 := (mod3_in (ts[k]?.getD 0)).1
    simp only [drT, drS]
    omega

def drE (ts : List Int) (k : Nat) : En := ⟨(k : Int) + 1, drT ts (k + 1), ((k % 4 : Nat) : Int), List.replicate (k % 7) 0⟩

def drL (ts : List Int) (k : Nat) : List En := (List.range k).map (drE ts)

theorem drL_length (ts : List Int) (k : Nat) : (drL ts k).length = k := by simp [drL]

theorem drL_succ (ts : List Int) (k : Nat) : drL ts (k + 1) = drL ts k ++ [drE ts k] := by simp [drL, List.range_succ]

theorem drL_get (ts : List Int) (k i : Nat) (h : i < (drL ts k).length) : (drL ts k)[i] = drE ts i := by simp [drL]

theorem ltE_drL (ts : List Int) (k : Nat) : ltE 1 (drL ts k) = drT ts k := by
  cases k with
  | zero => rfl
  | succ k => rw [drL_succ]; unfold ltE; simp [drE]

theorem chain_drL (ts : List Int) : ∀ k, chain 0 1 (drL ts k)
  | 0 => trivial
  | k + 1 => by
    rw [drL_succ, chain_append, ltE_drL, drL_length]
    refine ⟨chain_drL ts k, ?_, ?_, trivial⟩
    · simp [drE]
    · have h2 := (mod3_in (ts[k]?.getD 0)).1
      simp only [drE, drT, drS]
      omega

theorem drL_in (ts : List Int) {k : Nat} (hk : k ≤ 60) : DrIn (drL ts k) := by
  refine ⟨chain_drL ts k, fun e he => ?_, by rw [drL_length]; exact hk⟩
  obtain ⟨i, hi, rfl⟩ := List.getElem_of_mem he
  rw [drL_get]
  rw [drL_length] at hi
  have := drT_in ts (i + 1)
  simp only [drE, List.length_replicate]
  omega

theorem drL_int (ts : List Int) {k : Nat} (hk : k ≤ 60) : ∀ e ∈ drL ts k, enInt e := fun e he => by
  obtain ⟨i, hi, rfl⟩ := List.getElem_of_mem he
  rw [drL_get]
  rw [drL_length] at hi
  have := drT_in ts (i + 1)
  unfold enInt
  simp only [drE]
  omega

/-- A part of a row of entries, from one on. -/
theorem RepEs.from {w : World} {F : Nat → Prop} {l : List En} {b off c : Nat} (h : RepEs w F l (.slice (some ⟨b, off, none⟩) l.length c)) (n : Nat) (hn : n < l.length) : RepEs w F (l.drop n) (.slice (some ⟨b, off + n * 4, none⟩) (l.length - n) (c - n)) := by
  rcases h with ⟨h, -⟩ | ⟨b', off', c', hv, hb, hl, hm, hc⟩
  · rw [h] at hn; simp at hn
  · simp only [Value.slice.injEq, Option.some.injEq, Addr.mk.injEq] at hv
    obtain ⟨⟨rfl, rfl, -⟩, -, rfl⟩ := hv
    refine .inr ⟨b, off + n * 4, c - n, by rw [List.length_drop], hb, by rw [List.length_drop]; omega, by omega, fun i hi => ?_⟩
    rw [List.length_drop] at hi
    have h1 := hc (n + i) (by omega)
    rw [Nat.add_mul, ← Nat.add_assoc] at h1
    rw [List.getElem_drop]
    exact h1

/-- Cells of a row that a call made. -/
theorem EsAt.addr {w0 wr : World} {es : List En} {a : Option Addr} {n c : Nat} (h : EsAt w0 es (.slice a n c) wr) (hn : 0 < es.length) : ∃ b, a = some ⟨b, 0, none⟩ ∧ n = es.length ∧ n ≤ c ∧ c ≤ 9223372036854775807 := by
  obtain ⟨-, us, -, hrow, -⟩ := h
  rcases hrow.2 with ⟨-, h2⟩ | ⟨g, cap, cur, hv, hg, hcur, hn2, hm, hs, ht⟩
  · omega
  · simp only [Value.slice.injEq] at hv
    unfold maxLen at hm
    obtain ⟨rfl, rfl, rfl⟩ := hv
    exact ⟨g, rfl, rfl, hn2, by omega⟩
end Go.Proofs.YtamgjlegcegmeaaGreatDoor.M

/- Part: SegDc3. -/
namespace Go.Proofs.YtamgjlegcegmeaaGreatDoor.M
open Go.RowKit

set_option maxRecDepth 20000 in
set_option maxHeartbeats 3200000 in
theorem RefSame5_eq (es : List En) (v1 v2 : Value) (F : Nat → Prop) (w : World) (h1 : RepEs w F es v1) (h2 : RepEs w F es v2) (hF : ∀ k, F k → k < w.heap.size) :
    Calls Tryz.prog 10 #[v1, v2] w fun e w' => e = .returned (.bool true) ∧ Below w.heap.size w w' := by
  obtain ⟨a1, c1, rfl, hl1⟩ := h1.slice
  obtain ⟨a2, c2, rfl, hl2⟩ := h2.slice
  have H1 := Lib.hid h1
  have H2 := Lib.hid h2
  have HF := Lib.hid hF
  obtain ⟨n, hn⟩ : ∃ n, n = es.length := ⟨_, rfl⟩
  rw [← hn] at hl1
  have hni : (n : Int) ≤ 9223372036854775807 := by omega
  rw [← hn]
  have HN := Lib.hid hn
  clear h1 h2 hF hn hl2
  go_enter Tryz.func10, Tryz.ntmps10
  go_wp2_with fail
  go_loopw [5] (fun i wr => ∃ k : Nat, i = .int .i64 (k : Int) ∧ k ≤ n ∧ Below w.heap.size w wr) (fun i _ => n - (intOf i).toNat)
  case atStart => exact ⟨0, rfl, Nat.zero_le _, Below.refl _ _⟩
  case round =>
    obtain ⟨k, rfl, hk, hbr⟩ := hrel
    have HBR := Lib.hid hbr
    by_cases hlt : k < n
    · have hkk : (k : Int) < (n : Int) := by omega
      have hke : k < es.length := by rw [← HN.out]; exact hlt
      obtain ⟨b1, o1, rfl, hb1, -, p0, p1, p2, u, p3, hu⟩ := (H1.out.same (w' := wr) (fun _ h => h) fun q hq => hbr.block q (HF.out q hq)).elem k (by rw [← HN.out]; exact hlt)
      obtain ⟨b2, o2, rfl, hb2, -, q0, q1, q2, v, q3, hv⟩ := (H2.out.same (w' := wr) (fun _ h => h) fun q hq => hbr.block q (HF.out q hq)).elem k (by rw [← HN.out]; exact hlt)
      obtain ⟨e, he⟩ : ∃ e, e = es[k] := ⟨_, rfl⟩
      rw [← he] at p0 p1 p2 q0 q1 q2 hu hv
      have hst1 := fun m => run_string (P := Tryz.prog) (w := wr.drewN m) (hu.same (fun _ h => h) fun _ _ => rfl) 34 5 9 Tryz.underlying34 Tryz.underlying5 Tryz.underlying9
      have hst2 := fun m => run_string (P := Tryz.prog) (w := wr.drewN m) (hv.same (fun _ h => h) fun _ _ => rfl) 34 5 9 Tryz.underlying34 Tryz.underlying5 Tryz.underlying9
      obtain ⟨ua, uc, rfl, -⟩ := hu.slice
      obtain ⟨va, vc, rfl, -⟩ := hv.slice
      have hbz1 : b1 < wr.heap.size := Nat.lt_of_lt_of_le (HF.out b1 hb1) hbr.size
      have hbz2 : b2 < wr.heap.size := Nat.lt_of_lt_of_le (HF.out b2 hb2) hbr.size
      obtain ⟨ei, et, ek, eb⟩ := e
      simp only at p0 p1 p2 q0 q1 q2 hst1 hst2 p3 q3
      obtain ⟨sq, hsq⟩ : ∃ sq, sq = strOf eb := ⟨_, rfl⟩
      simp only [← hsq] at hst1 hst2
      obtain ⟨m, hm⟩ : ∃ m, m = eb.length := ⟨_, rfl⟩
      rw [← hm] at p3 q3
      simp only [← hm] at hst1 hst2
      have HBN : Hid (∀ j, Below w.heap.size w (wr.drewN j)) := Lib.hid fun j => ⟨hbr.os, hbr.tape, hbr.output, hbr.size, hbr.block⟩
      clear hu hv hb1 hb2 he hsq hm hbr hke hlt
      go_wp2_with fail
      go_quiet (fail)
      clear hst1 hst2 p0 p1 p2 q0 q1 q2 p3 q3
      go_wp2_with fail
      go_roundw
      case rel => exact ⟨k + 1, by go_num, by omega, HBN.out _⟩
      case measure => simp [intOf]; omega
    · have hkk : ¬ (k : Int) < (n : Int) := by omega
      go_wp2_with fail
      go_ret
      exact ⟨rfl, HBR.out⟩
end Go.Proofs.YtamgjlegcegmeaaGreatDoor.M

/- Part: LawSgDrops. -/
namespace Go.Proofs.YtamgjlegcegmeaaGreatDoor.M
open Go.RowKit Go.Maps
open D (Fl Dk)

theorem make_b5 (n : Nat) (hn : n ≤ 1000000) (W : World) :
    (Instr.makeSlice 34 (.int .i64 (n : Int)) (.int .i64 (n : Int))).run Tryz.prog W = .ok (.slice (some ⟨W.heap.size, 0, none⟩) n n) (W.alloc (.cells ((List.replicate n (0 : UInt8)).map byteV).toArray 5)) := by
  obtain ⟨ib, hib, hib0, hib1, hib2⟩ := info_parts infoByte
  have hz : madeCells #[Value.int .u8 0] n = ((List.replicate n (0 : UInt8)).map byteV).toArray := by
    apply Array.toList_inj.1
    rw [toList_madeCells_one]
    simp [byteV]
  rw [← hz]
  exact run_make_row 34 5 ib (.int .u8 0) Tryz.underlying34 hib hib0 hib1 rfl .i64 .i64 n (by rw [hib2]; omega) (by omega) W

theorem own_b5 (n : Nat) (hn : n ≤ 1000000) (W : World) : Own W (List.replicate n 0) (.slice (some ⟨W.heap.size, 0, none⟩) n n) (W.alloc (.cells ((List.replicate n (0 : UInt8)).map byteV).toArray 5)) := by
  refine ⟨below_alloc _ _, ?_⟩
  have h := World.ownsRow_lit W ((List.replicate n (0 : UInt8)).map byteV).toArray n (base := W.heap.size) (e := 5) (size := 1) (Nat.le_refl _) (by unfold maxLen; omega) (by simp)
  simpa using h

theorem modn_at (r : Int) (N : Nat) : ∃ n : Nat, (r.tmod ((N : Int) + 1) + (N : Int) + 1).tmod ((N : Int) + 1) = (n : Int) ∧ n ≤ N ∧ -((N : Int) + 1) < r.tmod ((N : Int) + 1) ∧ r.tmod ((N : Int) + 1) < (N : Int) + 1 := by
  obtain ⟨m, hm⟩ : ∃ m : Int, m = (N : Int) + 1 := ⟨_, rfl⟩
  have hm0 : 0 < m := by omega
  rw [Int.add_assoc, ← hm]
  have a1 := Int.tmod_lt_of_pos r hm0
  have a2 : -m < r.tmod m := Int.lt_tmod_of_pos r hm0
  generalize r.tmod m = x at *
  have b1 := Int.tmod_lt_of_pos (x + m) hm0
  have b2 := Int.tmod_nonneg m (show 0 ≤ x + m by omega)
  exact ⟨((x + m).tmod m).toNat, (Int.toNat_of_nonneg b2).symm, by omega, a2, a1⟩

theorem LS.esrep {wa W w : World} {Xa Xda X Xd F : Nat → Prop} {g gd : Nat} {least : Int} {h : Hd} {d : Dk} {es : List En} {v : Value} (l : LS (fun k o => wa.heap[k]? = some o ∧ ¬ Xa k ∧ ¬ Xda k) w X Xd g gd least h d W) (hr : RepEs wa F es v) (hF : ∀ k, F k → k < wa.heap.size ∧ ¬ Xa k ∧ ¬ Xda k) :
    RepEs W F es v ∧ ∀ k, F k → k < W.heap.size ∧ ¬ X k ∧ ¬ Xd k := by
  have h0 : ∀ k, F k → W.heap[k]? = wa.heap[k]? ∧ k < W.heap.size ∧ ¬ X k ∧ ¬ Xd k := fun k hk => by
    obtain ⟨h1, h2, h3⟩ := hF k hk
    have h4 := Array.getElem?_eq_getElem h1
    have h5 := l.kp k _ ⟨h4, h2, h3⟩
    exact ⟨h5.1.trans h4.symm, lt_of_heap h5.1, h5.2⟩
  exact ⟨hr.same (fun _ h => h) fun k hk => (h0 k hk).1, fun k hk => (h0 k hk).2⟩

theorem From_rest (X : Nat → Prop) (g gd : Nat) (least : Int) (h : Hd) (w : World) (l : Lg w X g gd least h) (ho : HdOk h) (hs : h.Seq) (n : Int) (hn : h.mi = n) (R : List En) (hR : h.rows.map (·.e) = R) (hl : R.length ≤ 1000) :
    Calls Tryz.prog 11 #[.pointer (some ⟨g, 0, none⟩), .int .i64 (n + 1), .int .i64 1000] w fun e w' => ∃ v, e = .returned v ∧ EsAt w R v w' := by
  have hlast := hs.last
  have hrl : h.rows.length = R.length := by rw [← hR, List.length_map]
  by_cases h0 : R.length = 0
  · refine (From_none X g gd least h (n + 1) 1000 w l ho (.inr (by omega))).mono ?_
    rintro e w' ⟨rfl, hb⟩
    rw [List.eq_nil_of_length_eq_zero h0]
    exact ⟨_, rfl, EsAt.nil hb⟩
  · have h1 := From_all X g gd least h (n + 1) 1000 w l ho hs (by omega) (by omega) (by omega)
    rw [show (n + 1 - h.mi - 1).toNat = 0 by omega, List.drop_zero, hR] at h1
    exact h1

/-- The rest of a row: as Go cuts it. -/
def cutA (a : Option Addr) (c n : Nat) : Option Addr := if c = n then a else a.map (·.add (n * 4))

theorem size_ent (W : World) : (sizeOf (Tryz.prog.elem 33)).run Tryz.prog W = .ok 4 W := by kernel_rfl

set_option maxRecDepth 40000 in
theorem cut_run (a : Option Addr) (N c n : Nat) (h1 : n ≤ N) (W : World) : (Instr.slice 33 (.slice a N c) (some (.int .i64 (n : Int))) none none).run Tryz.prog W = .ok (.slice (cutA a c n) (N - n) (c - n)) W := by
  have h := run_slice_l W 33 a N c Tryz.underlying33 .i64 (n : Int) (by omega) (by omega)
  rw [size_ent W] at h
  exact h

set_option maxRecDepth 40000 in
theorem cut_runAt (a : Option Addr) (N c n : Nat) (h1 : n ≤ N) (W : World) : (Instr.sliceAt 33 (.slice a N c) (some (.int .i64 (n : Int))) none none).run Tryz.prog W = .ok (.slice (cutA a c n) (N - n) (c - n)) W :=
  (run_sliceAt_slice W 33 _ _ _ _ Tryz.underlying33).trans (cut_run a N c n h1 W)

theorem RepEs.cut {w : World} {F : Nat → Prop} {E : List En} {a : Option Addr} {N c n : Nat} (h : RepEs w F E (.slice a N c)) (hN : E.length = N) (hn : n ≤ N) (hc : c ≤ 9223372036854775807) (ha : a = none → c = 0) : RepEs w F (E.drop n) (.slice (cutA a c n) (N - n) (c - n)) := by
  subst hN
  rcases Nat.eq_or_lt_of_le hn with he | hlt
  · rw [he, List.drop_length, Nat.sub_self]
    refine .inl ⟨rfl, _, _, rfl, by omega, fun h0 => ?_⟩
    have : a = none := by
      unfold cutA at h0
      split at h0
      · exact h0
      · simpa using h0
    rw [ha this]
    omega
  · have h' := h
    rcases h' with ⟨h0, -⟩ | ⟨b, off, c', hv, hb, hl, hm, -⟩
    · rw [h0] at hlt; simp at hlt
    · simp only [Value.slice.injEq] at hv
      obtain ⟨rfl, -, rfl⟩ := hv
      unfold cutA
      rw [if_neg (by omega)]
      have h2 := h.from n hlt
      rw [← addr_add] at h2
      exact h2

theorem EsAt.caps {w0 wr : World} {es : List En} {a : Option Addr} {n c : Nat} (h : EsAt w0 es (.slice a n c) wr) : n ≤ c ∧ c ≤ 9223372036854775807 ∧ (a = none → c = 0) := by
  obtain ⟨-, us, -, hrow, -⟩ := h
  rcases hrow.2 with ⟨h1, h2⟩ | ⟨g, cap, cur, hv, hg, hcur, hn2, hm, hs, ht⟩
  · simp only [Value.slice.injEq] at h1
    omega
  · simp only [Value.slice.injEq] at hv
    unfold maxLen at hm
    obtain ⟨rfl, rfl, rfl⟩ := hv
    exact ⟨hn2, by omega, fun h => by cases h⟩

theorem same_rest {w9 wd wf : World} {R : List En} {Fq : Nat → Prop} {U vf : Value} (hd : Below w9.heap.size w9 wd) (hef : EsAt wd R vf wf) (hi : ∀ e ∈ R, enInt e) (hu : RepEs w9 Fq R U) (hF : ∀ q, Fq q → q < w9.heap.size) :
    ∀ W, Below wf.heap.size wf W → Calls Tryz.prog 10 #[vf, U] W fun e w' => e = .returned (.bool true) ∧ Below W.heap.size W w' := fun W hb =>
  RefSame5_eq R vf U (fun q => q < wf.heap.size) W ((hef.rep hi).same (fun q hq => hq.2) fun q hq => hb.block q hq.2)
    (hu.same (fun q hq => Nat.lt_of_lt_of_le (hF q hq) (Nat.le_trans hd.size hef.1.size)) fun q hq => ((hb.block q (Nat.lt_of_lt_of_le (hF q hq) (Nat.le_trans hd.size hef.1.size))).trans (hef.1.block q (Nat.lt_of_lt_of_le (hF q hq) hd.size))).trans (hd.block q (hF q hq)))
    fun q hq => Nat.lt_of_lt_of_le hq hb.size

theorem reopen {K : Nat → Obj → Prop} {w wc : World} {Xd : Nat → Prop} {gd : Nat} {size : Int} {E : List En} {n : Nat} {tm : Int} {h1 h2 h3 : Hd} {d1 d2 d3 : Dk} (P : DrPlan size E n tm h1 d1 h2 d2 h3 d3) (hd : DS w Xd gd d3 wc) (hk : ∀ k o, K k o → wc.heap[k]? = some o ∧ ¬ Xd k) (hm : (0 ≤ (n : Int) ∧ (n : Int) < 10000000000) ∧ (0 ≤ tm ∧ tm < 10000000000)) (hs : 1 ≤ size) (hP : Hid (Pow10 w)) (hT : Hid (Tab w)) :
    ∃ h4 d4, Calls Tryz.prog 6 #[.pointer (some ⟨gd, 0, none⟩), .agg #[.int .i64 (n : Int), .int .i64 tm], .int .i64 size] wc (fun e w' => ∃ g X Xd', e = .returned (.tuple #[.pointer (some ⟨g, 0, none⟩), .int .i64 0]) ∧ LS K w X Xd' g gd size h4 d4 w') ∧
      HdOk h4 ∧ h4.Seq ∧ h4.rows.map (·.e) = E.drop n ∧ h4.mi = (n : Int) ∧ d4.fs.length ≤ 4000 ∧ (n = E.length → d4.fs = []) := by
  rcases P.opn with ⟨hn, hf⟩ | ⟨hlt, gs, h4, d4, a1, a2, a3, a4, a5, a6, a7, a8, a9, a10, a11, a12, a13⟩
  · exact ⟨⟨(n : Int), tm, [], [], (n : Int)⟩, d3, Open_empty K w wc Xd gd d3 hd hf hk n tm hm size hs hP, ⟨by simp, by simp, (fun f hf => by cases hf), hm, fun r hr => by cases hr⟩, (fun i hi => by cases hi), by rw [hn, List.drop_length]; rfl, rfl, by rw [hf]; simp, fun _ => hf⟩
  · exact ⟨h4, d4, Open_rows K w wc Xd gd d3 hd gs a1 a2 a3 hk n tm hm size hs hP hT a4 a5 a6 a7 h4 d4 a8, a9, a10, a11, a12, a13, fun h => by omega⟩

set_option maxRecDepth 40000 in
set_option maxHeartbeats 12800000 in
theorem SegmentDrops_any (size : Int) (ts : List Int) (tq : Int) (F : Nat → Prop) (v1 : Value) (w : World) (hz : -9223372036854775808 ≤ size ∧ size ≤ 9223372036854775807) (hto : -9223372036854775808 ≤ tq ∧ tq ≤ 9223372036854775807) (hv1 : RepI w F ts v1) (hF : ∀ k, F k → k < w.heap.size) (hT : Hid (Tab w)) (hP : Hid (Pow10 w)) :
    Calls Tryz.prog 3 #[.int .i64 size, v1, .int .i64 tq] w fun e w' => e = .returned (.bool true) ∧ Below w.heap.size w w' := by
  obtain ⟨ba, bc, rfl, hbl⟩ := hv1.slice
  have HV1 := Lib.hid hv1
  have HF := Lib.hid hF
  have HA : Hid (∀ wx : World, Below w.heap.size w wx → Calls Tryz.prog 4 #[] wx fun e w' => e = .returned (.bool true) ∧ Below w.heap.size w w') := Lib.hid fun wx hb =>
    (awake5_any wx (Lib.hid (hT.out.next hb)) (Lib.hid (hP.out.next hb))).mono fun e w' h => ⟨h.1, hb.trans (h.2.mono hb.size)⟩
  clear hv1 hF
  obtain ⟨hz1, hz2⟩ := hz
  obtain ⟨hto1, hto2⟩ := hto
  by_cases hbig : 60 < ts.length
  · have q : (60 : Int) < (ts.length : Int) := by omega
    clear hbig
    go_enter Tryz.func3, Tryz.ntmps3
    go_wp2_with fail
    refine (HA.out w (Below.refl _ _)).mono ?_
    rintro e w0 ⟨rfl, hb0⟩
    go_wp2_with fail
    refine (HA.out w0 hb0).mono ?_
    rintro e w1 ⟨rfl, hb1⟩
    go_wp2_with fail
    go_ret
    exact ⟨rfl, hb1⟩
  · have q : decide ((60 : Int) < (ts.length : Int)) = false := by simp; omega
    have q' : decide (60 < ts.length) = false := by simp; omega
    have H60 : Hid (ts.length ≤ 60) := Lib.hid (by omega)
    by_cases hsz : size < 1
    · clear hbig
      go_enter Tryz.func3, Tryz.ntmps3
      go_wp2_with fail
      refine (HA.out w (Below.refl _ _)).mono ?_
      rintro e w0 ⟨rfl, hb0⟩
      go_wp2_with fail
      refine (HA.out w0 hb0).mono ?_
      rintro e w1 ⟨rfl, hb1⟩
      go_wp2_with fail
      go_ret
      exact ⟨rfl, hb1⟩
    · have hsd : decide (size < 1) = false := decide_eq_false hsz
      have hs1 : 1 ≤ size := by omega
      have hbli : (ts.length : Int) ≤ 60 := by omega
      clear hbig
      go_enter Tryz.func3, Tryz.ntmps3
      go_wp2_with fail
      refine (HA.out w (Below.refl _ _)).mono ?_
      rintro e w0 ⟨rfl, hb0⟩
      have HB0 := Lib.hid hb0
      have HT0 : Hid (Tab w0) := Lib.hid (hT.out.next hb0)
      have HP0 : Hid (Pow10 w0) := Lib.hid (hP.out.next hb0)
      clear hb0
      go_wp2_with fail
      refine (newDisk5_any 100000 w0 (by omega) (by omega)).mono ?_
      rintro e w1 ⟨gd, Xd1, rfl, h1⟩
      have H1 := Lib.hid h1
      clear h1
      go_wp2_with fail
      refine (Open_empty NoK w0 w1 Xd1 gd (fresh 100000) H1.out rfl (fun k o h => h.elim) 0 0 (by omega) size hs1 HP0).mono ?_
      rintro e w2 ⟨g, X2, Xd2, rfl, h2⟩
      have H2 : Hid (LS NoK w0 X2 Xd2 g gd size k0 (fresh 100000) w2) := Lib.hid h2
      have HB2 : Hid (Below w.heap.size w w2) := Lib.hid (HB0.out.trans (h2.below.mono HB0.out.size))
      clear h2
      go_wp2_with fail
      clear q q' hsz hsd
      go_loopw [11, 12, 13] (fun vt va vi wr => ∃ (k : Nat) (a : Option Addr) (c : Nat), vi = .int .i64 (k : Int) ∧ vt = .int .i64 (drT ts k) ∧ va = .slice a k c ∧ k ≤ ts.length ∧ Hid (EsAt w2 (drL ts k) (.slice a k c) wr)) (fun _ _ i _ => ts.length - (intOf i).toNat)
      case atStart => exact ⟨0, none, 0, rfl, rfl, rfl, Nat.zero_le _, Lib.hid (EsAt.nil (Below.refl _ _))⟩
      case round =>
        obtain ⟨k, a, c, rfl, rfl, rfl, hk, HAT⟩ := hrel
        have HBW : Hid (Below w.heap.size w wr) := Lib.hid (HB2.out.trans (HAT.out.1.mono HB2.out.size))
        by_cases hlt : k < ts.length
        · have hkk : (k : Int) < (ts.length : Int) := by omega
          obtain ⟨bb, boff, rfl, hbF, hbc, hx1, hx2⟩ := (HV1.out.same (w' := wr) (fun _ h => h) fun j hj => HBW.out.block j (HF.out j hj)).elem k hlt
          have hbz : bb < wr.heap.size := Nat.lt_of_lt_of_le (HF.out bb hbF) HBW.out.size
          obtain ⟨x, hx⟩ : ∃ x, x = ts[k] := ⟨_, rfl⟩
          rw [← hx] at hbc hx1 hx2
          obtain ⟨⟨m1, m2⟩, m3, m4⟩ := mod3_in x
          have hS : drT ts (k + 1) = drT ts k + (x.tmod 3 + 3).tmod 3 := by
            simp only [drT, drS]
            rw [List.getElem?_eq_getElem hlt, ← hx]
            rfl
          obtain ⟨t1, t2⟩ := drT_in ts k
          have HS := Lib.hid hS
          obtain ⟨t, ht⟩ : ∃ t, t = drT ts k := ⟨_, rfl⟩
          rw [← ht] at HS t1 t2 ⊢
          obtain ⟨y, hy⟩ : ∃ y, y = x.tmod 3 := ⟨_, rfl⟩
          rw [← hy] at HS m1 m2 m3 m4
          obtain ⟨z, hz⟩ : ∃ z, z = (y + 3).tmod 3 := ⟨_, rfl⟩
          rw [← hz] at HS m1 m2
          have hy' := hy.symm
          have hz' := hz.symm
          have hk4 : (k : Int).tmod 4 = ((k % 4 : Nat) : Int) := rfl
          have hk7 : (k : Int).tmod 7 = ((k % 7 : Nat) : Int) := rfl
          have HDE : Hid (drE ts k = ⟨(k : Int) + 1, drT ts (k + 1), ((k % 4 : Nat) : Int), List.replicate (k % 7) 0⟩) := Lib.hid rfl
          have e4 : k % 4 < 4 := Nat.mod_lt _ (by omega)
          have e7 : k % 7 < 7 := Nat.mod_lt _ (by omega)
          obtain ⟨q4, hq4⟩ : ∃ q4, q4 = k % 4 := ⟨_, rfl⟩
          obtain ⟨q7, hq7⟩ : ∃ q7, q7 = k % 7 := ⟨_, rfl⟩
          rw [← hq4] at hk4 HDE e4
          rw [← hq7] at hk7 HDE e7
          have hmk := fun W : World => make_b5 q7 (by omega) W
          have HOWN := Lib.hid (own_b5 q7 (by omega) wr)
          obtain ⟨W7, hW7⟩ : ∃ W7, W7 = wr.alloc (.cells ((List.replicate q7 (0 : UInt8)).map byteV).toArray 5) := ⟨_, rfl⟩
          obtain ⟨gq, hgq⟩ : ∃ gq, gq = wr.heap.size := ⟨_, rfl⟩
          have hmk1 : (Instr.makeSlice 34 (.int .i64 (q7 : Int)) (.int .i64 (q7 : Int))).run Tryz.prog wr = .ok (.slice (some ⟨gq, 0, none⟩) q7 q7) W7 := by rw [hmk wr, hW7, hgq]
          rw [← hW7, ← hgq] at HOWN
          obtain ⟨us, hus, hrow, heach⟩ := HAT.out.2
          rw [drL_length] at hrow hus
          have HROW2 := Lib.hid hrow
          have HUS := Lib.hid hus
          have HEACH := Lib.hid heach
          have hb7 := HOWN.out.1
          have HR7 : Hid ((W7.alloc (.cells #[.int .i64 ((k : Int) + 1), .int .i64 (t + z), .int .i64 (q4 : Int), .slice (some ⟨gq, 0, none⟩) q7 q7] 36)).ownsRow w2.heap.size 36 4 (.slice a k c) k (enCells (drL ts k) us)) := Lib.hid (ownsRow_same HROW2.out fun q hq => by
            have h4 := (HROW2.out.lt q hq).2
            rw [Below.heap_alloc _ _ _ (Nat.lt_of_lt_of_le h4 hb7.size), hb7.block q h4])
          have HSZ7 : Hid (w2.heap.size ≤ W7.heap.size + 1) := Lib.hid (by have := HAT.out.1.size; have := hb7.size; omega)
          obtain ⟨iE, hiE, hiE0, hiE1, hiE2⟩ := info_parts infoEn5
          have hki : k ≤ 60 := by have := H60.out; omega
          clear hx hS ht hy hz hmk hW7 hgq hus hrow heach hb7 hq4 hq7 hbF
          go_wp2_with (at_builtin; refine wpList_append_any _ rfl (.tmp 63) (.tmp 73) 33 rfl w2.heap.size 36 iE (.agg #[.int .i64 0, .int .i64 0, .int .i64 0, .slice none 0 0]) 4 48 Tryz.underlying33 hiE hiE0 hiE1 hiE2 rfl (by decide) _ k _ rfl HR7.out _ rfl 1 [.int .i64 ((k : Int) + 1), .int .i64 (t + z), .int .i64 (q4 : Int), .slice (some ⟨gq, 0, none⟩) q7 q7] (yields_en5 rfl) (by unfold maxLen; omega) (by omega) (by simp; exact HSZ7.out) ?_)
          intro v9 w9 happ
          obtain ⟨hr9, hg9, -⟩ := happ
          obtain ⟨ra9, rc9, rfl⟩ := owned_slice hr9
          have HN9 : Hid (EsAt w2 (drL ts (k + 1)) (.slice ra9 (k + 1) rc9) w9) := Lib.hid (by
            rw [drL_succ, HDE.out, HS.out]
            refine HAT.out.step (e := ⟨(k : Int) + 1, t + z, (q4 : Int), List.replicate q7 0⟩) HOWN.out us (by rw [HUS.out, drL_length]) (by rw [drL_length]; exact HROW2.out) HEACH.out (by rw [drL_length]; exact hr9) hg9)
          clear hr9 hg9
          go_wp2_with fail
          go_roundw
          case rel => exact ⟨k + 1, ra9, rc9, by go_num, by rw [HS.out], rfl, by omega, HN9⟩
          case measure => simp [intOf]; omega
        · have hkk : ¬ (k : Int) < (ts.length : Int) := by omega
          obtain rfl : k = ts.length := by omega
          obtain ⟨n, hn, hnN, hn1, hn2⟩ := modn_at tq ts.length
          obtain ⟨y, hy⟩ : ∃ y, y = tq.tmod ((ts.length : Int) + 1) := ⟨_, rfl⟩
          rw [← hy] at hn hn1 hn2
          have hy' := hy.symm
          have hNp : 0 < (ts.length : Int) + 1 := by omega
          obtain ⟨tm, htm⟩ : ∃ tm, tm = if n = 0 then 0 else drT ts n := ⟨_, rfl⟩
          obtain ⟨h1, d1, h2, d2, h3, d3, P⟩ := drops_plan size (drL_in ts H60.out) n (by rw [drL_length]; exact hnN) tm (fun h => by rw [htm, if_pos h]) (fun i hi hin => by rw [drL_get, htm, if_neg (by omega), ← hin]; rfl)
          have HPL := Lib.hid P
          have HTM := Lib.hid htm
          obtain ⟨E, hE⟩ : ∃ E, E = drL ts ts.length := ⟨_, rfl⟩
          have HE := Lib.hid hE
          have HEL : Hid (E.length = ts.length) := Lib.hid (by rw [hE, drL_length])
          have HEI : Hid (∀ e ∈ E, enInt e) := Lib.hid (by rw [hE]; exact drL_int ts H60.out)
          have HSM : Hid ((E.map fun e => (sgRow e).length).sum ≤ 6360) := Lib.hid (by rw [hE]; exact (drL_in ts H60.out).sum)
          rw [← hE] at HAT HPL
          have HL2 := Lib.hid (H2.out.next HAT.out.1).keep
          have HFQ : Hid (∀ q, (w2.heap.size ≤ q ∧ q < wr.heap.size) → q < wr.heap.size ∧ ¬ X2 q ∧ ¬ Xd2 q) := Lib.hid fun q hq => ⟨hq.2, fun hx => by have := H2.out.lt hx; omega, fun hx => by have := H2.out.ds.lt q hx; omega⟩
          have HRE := Lib.hid (HAT.out.rep HEI.out)
          have HAP := Append_any _ w0 wr X2 Xd2 g gd size k0 (fresh 100000) E (.slice a ts.length c) _ 0 0 HL2.out ⟨by decide, by decide, (fun f hf => by cases hf), by decide, fun r hr => by cases hr⟩ (by rw [HEL.out]; have := H60.out; omega) (by have := HSM.out; omega) HRE.out HFQ.out (by have := HSM.out; show D.used [] + _ ≤ _; simp [D.used]; omega) HT0 HP0
          rw [HPL.out.app] at HAP
          have HAP := Lib.hid HAP
          have ht2 := drT_in ts ts.length
          obtain ⟨tl, htl⟩ : ∃ tl, tl = drT ts ts.length := ⟨_, rfl⟩
          rw [← htl] at ht2 ⊢
          clear hy htm hE P htl hk hlt hkk
          go_wp2_with fail
          refine HAP.out.mono ?_
          rintro e w3 ⟨rfl, X3, Xd3, l3⟩
          have HL3 := Lib.hid l3
          clear l3
          have HSY := Sync_any _ w0 w3 X3 Xd3 g gd size h1 d1 HL3.out HPL.out.ok1 HP0
          rw [HPL.out.syn] at HSY
          have HSY := Lib.hid HSY
          go_wp2_with fail
          refine HSY.out.mono ?_
          rintro e w4 ⟨rfl, Xd4, l4⟩
          have HL4 := Lib.hid l4
          have hr4 := l4.esrep HRE.out HFQ.out
          have HR4 := Lib.hid hr4
          clear l4 hr4
          obtain ⟨ua, hua⟩ : ∃ ua, ua = cutA a c n := ⟨_, rfl⟩
          have HCUT := Lib.hid (⟨cut_run a ts.length c n hnN, cut_runAt a ts.length c n hnN⟩ : (∀ W, (Instr.slice 33 (.slice a ts.length c) (some (.int .i64 (n : Int))) none none).run Tryz.prog W = .ok (.slice (cutA a c n) (ts.length - n) (c - n)) W) ∧ ∀ W, (Instr.sliceAt 33 (.slice a ts.length c) (some (.int .i64 (n : Int))) none none).run Tryz.prog W = .ok (.slice (cutA a c n) (ts.length - n) (c - n)) W)
          have HRC : Hid (∀ (W : World) (F : Nat → Prop), RepEs W F E (.slice a ts.length c) → RepEs W F (E.drop n) (.slice (cutA a c n) (ts.length - n) (c - n))) := Lib.hid fun W F h => h.cut HEL.out hnN HAT.out.caps.2.1 HAT.out.caps.2.2
          rw [← hua] at HCUT HRC
          have HEI2 : Hid (∀ e ∈ E.drop n, enInt e) := Lib.hid fun e he => HEI.out e (List.mem_of_mem_drop he)
          clear hua
          by_cases hn0 : n = 0
          · have hg0 : decide ((0 : Int) < (n : Int)) = false := decide_eq_false (by omega)
            have hg0' : decide (0 < n) = false := decide_eq_false (by omega)
            have hg0'' : ¬ 0 < n := by omega
            have HN0 := Lib.hid hn0
            have htz : tm = 0 := by rw [HTM.out, if_pos hn0]
            subst htz
            clear hn0
            obtain ⟨W6, hW6⟩ : ∃ W, W = w4.alloc (.cells #[.int .i64 (n : Int), .int .i64 0] 32) := ⟨_, rfl⟩
            have HB6 : Hid (Below w4.heap.size w4 W6) := Lib.hid (by rw [hW6]; exact below_alloc _ _)
            have HX6 : Hid (W6.heap[w4.heap.size]? = some (.cells #[.int .i64 (n : Int), .int .i64 0] 32)) := Lib.hid (by rw [hW6]; exact heap_new _ _ _ rfl)
            go_wp2_with fail
            rw [← hW6]
            obtain ⟨bm, hbm⟩ : ∃ bm, bm = w4.heap.size := ⟨_, rfl⟩
            rw [← hbm] at HX6 ⊢
            have HL6 := Lib.hid (HL4.out.next HB6.out).keep
            have HR6 := Lib.hid ((HL4.out.next HB6.out).esrep HRE.out HFQ.out)
            have HBN : Hid (¬ X3 bm ∧ ¬ Xd4 bm) := Lib.hid ⟨fun hx => by have := HL4.out.lt hx; omega, fun hx => by have := HL4.out.ds.lt _ hx; omega⟩
            clear hW6 hbm
            refine (dropTo_wrong X3 g gd size h2 W6 HL6.out.lg HPL.out.ok2 HPL.out.sq2 _ _ (by rw [HPL.out.t0]; intro h; have h := congrArg Prod.fst h; dsimp only at h; omega)).mono ?_
            rintro e w7 ⟨rfl, hb7⟩
            have HX7 := Lib.hid (old_below HX6.out hb7)
            have HL7 := Lib.hid (HL6.out.next hb7)
            have z0 := cell_of_row _ _ 0 _ _ _ HX7.out
            have z1 := cell_of_row _ _ 1 _ _ _ HX7.out
            clear hb7
            go_wp2_with fail
            refine (dropTo_wrong X3 g gd size h2 w7 HL7.out.lg HPL.out.ok2 HPL.out.sq2 _ _ (by rw [← HEL.out, HPL.out.t1]; simp)).mono ?_
            rintro e w8 ⟨rfl, hb8⟩
            have HX8 := Lib.hid (old_below HX7.out hb8)
            have HL8 := Lib.hid (HL7.out.next hb8)
            clear z0 z1 hb8
            have z0 := cell_of_row _ _ 0 _ _ _ HX8.out
            have z1 := cell_of_row _ _ 1 _ _ _ HX8.out
            simp only [List.getElem?_toArray, List.getElem?_cons_zero, List.getElem?_cons_succ] at z0 z1
            have zz : bm < w8.heap.size := lt_of_heap HX8.out
            have hx8 := HX8.out
            go_wp2_with fail
            refine (dropTo_ok _ w0 w8 X3 Xd4 g gd size h2 d2 HL8.out HPL.out.ok2 HPL.out.sq2 n _ ⟨by omega, by omega⟩ HPL.out.t0 HP0 h3 d3 HPL.out.drp).mono ?_
            rintro e w9 ⟨rfl, l9⟩
            have HL9 := Lib.hid l9
            have HR9 := Lib.hid (l9.esrep HR6.out.1 HR6.out.2)
            have HX9 := Lib.hid (l9.kp bm _ ⟨HX6.out, HBN.out⟩)
            have hS : Below w9.heap.size w9 w9.drew := (Below.refl _ _).drew
            have HFR := Lib.hid (fun (W : World) (hb : Below w9.heap.size w9 W) => From_rest X3 g gd size h3 W (HL9.out.next hb).lg HPL.out.ok3 HPL.out.sq3 n HPL.out.m3.1 (E.drop n) HPL.out.r3 (by rw [List.length_drop, HEL.out]; have := H60.out; omega))
            have hcut := HCUT.out.1
            have hcutA := HCUT.out.2
            clear z0 z1 zz hx8 l9
            go_wp2_with fail
            have hw1 : IntKind.i64.wrap ((n : Int) + 1) = (n : Int) + 1 := IntWalk.i64_in _ (by omega)
            refine wp_region_held (S := fun w' => Below w9.heap.size w9 w') (by kernel_rfl) ?_
            refine H_take (i := 0) (v := ?_) rfl (by as_aux_lemma => kernel_rfl) (by as_aux_lemma => kernel_rfl) (by as_aux_lemma => kernel_rfl) (fun _ _ _ h => h) (by rfl) hS ?_ ?_
            rotate_left
            · intro w' hw'; go_simp; with_reducible rfl
            go_simp
            refine H_take (i := 1) (v := ?_) rfl (by as_aux_lemma => kernel_rfl) (by as_aux_lemma => kernel_rfl) (by as_aux_lemma => kernel_rfl) (fun _ _ _ h => h) (by rfl) hS ?_ ?_
            rotate_left
            · intro w' hw'; go_simp; with_reducible rfl
            go_simp
            refine H_take (i := 2) (v := ?_) rfl (by as_aux_lemma => kernel_rfl) (by as_aux_lemma => kernel_rfl) (by as_aux_lemma => kernel_rfl) (fun _ _ _ h => h) (by rfl) hS ?_ ?_
            rotate_left
            · intro w' hw'; go_simp; with_reducible rfl
            go_simp
            refine H_take (i := 4) (v := ?_) rfl (by as_aux_lemma => kernel_rfl) (by as_aux_lemma => kernel_rfl) (by as_aux_lemma => kernel_rfl) (fun _ _ _ h => h) (by rfl) hS ?_ ?_
            rotate_left
            · intro w' hw'; go_simp; with_reducible rfl
            go_simp
            refine H_take (i := 5) (v := ?_) rfl (by as_aux_lemma => kernel_rfl) (by as_aux_lemma => kernel_rfl) (by as_aux_lemma => kernel_rfl) (fun _ _ _ h => h) (by rfl) hS ?_ ?_
            rotate_left
            · intro w' hw'; go_simp; with_reducible rfl
            go_simp
            refine H_take (i := 6) (v := ?_) rfl (by as_aux_lemma => kernel_rfl) (by as_aux_lemma => kernel_rfl) (by as_aux_lemma => kernel_rfl) (fun _ _ _ h => h) (by rfl) hS ?_ ?_
            rotate_left
            · intro w' hw'; go_simp; with_reducible rfl
            go_simp
            refine H_one (i := 3) (by as_aux_lemma => kernel_rfl) rfl (by rfl) ?_
            go_simp
            refine (HFR.out _ hS).mono ?_
            rintro e wf ⟨vf, rfl, hef⟩
            have hSf : Below w9.heap.size w9 wf := hS.trans (hef.1.mono hS.size)
            have HSM := Lib.hid (same_rest hS hef HEI2.out (HRC.out _ _ HR9.out.1) (fun q hq => (HR9.out.2 q hq).1))
            refine ⟨hSf, ?_⟩
            go_simp
            clear hef
            refine H_one (i := 7) (by as_aux_lemma => kernel_rfl) rfl (by rfl) ?_
            go_simp
            refine (HSM.out _ (Below.refl _ _)).mono ?_
            rintro e ws ⟨rfl, hbs⟩
            have hSs : Below w9.heap.size w9 ws := hSf.trans (hbs.mono hSf.size)
            refine ⟨hSs, ?_⟩
            go_simp
            clear hbs hSf
            refine H_take (i := 8) (v := ?_) rfl (by as_aux_lemma => kernel_rfl) (by as_aux_lemma => kernel_rfl) (by as_aux_lemma => kernel_rfl) (fun _ _ _ h => h) (by rfl) hSs ?_ ?_
            rotate_left
            · intro w' hw'; go_simp; with_reducible rfl
            go_simp
            refine wpAnyH_done (by as_aux_lemma => kernel_rfl) ?_ _
            have HL10 := Lib.hid (HL9.out.next hSs)
            clear hS hSs HFR HSM
            go_wp2_with fail
            refine (DCrash HL10.out.ds [] (fun _ => False) _ RepI.nil (fun _ h => h.elim)).mono ?_
            rintro e wc hp9
            rw [HPL.out.cr] at hp9
            obtain ⟨rfl, Xdc, lc⟩ := HL10.out.disk hp9
            have HLC := Lib.hid lc
            have HXC := Lib.hid (lc.kp bm _ ⟨HX6.out, HBN.out⟩).1
            have hx8 := HXC.out
            have z0 := cell_of_row _ _ 0 _ _ _ HXC.out
            have z1 := cell_of_row _ _ 1 _ _ _ HXC.out
            simp only [List.getElem?_toArray, List.getElem?_cons_zero, List.getElem?_cons_succ] at z0 z1
            have zz : bm < wc.heap.size := lt_of_heap HXC.out
            clear hp9 lc
            go_wp2_with fail
            obtain ⟨h4, d4, hop, ho4, hs4, hr4, hm4, hf4, hn4⟩ := reopen (K := fun k o => W6.heap[k]? = some o ∧ ¬ X3 k ∧ ¬ Xd4 k) HPL.out HLC.out.ds (fun k o hk => ⟨(HLC.out.kp k o hk).1, (HLC.out.kp k o hk).2.2⟩) ⟨⟨by omega, by omega⟩, ⟨by omega, by omega⟩⟩ hs1 HP0 HT0
            have HOK4 := Lib.hid ho4
            have HSQ4 := Lib.hid hs4
            have HRR4 := Lib.hid hr4
            have HMI4 := Lib.hid hm4
            have HFL4 := Lib.hid hf4
            have HNN4 := Lib.hid hn4
            clear ho4 hs4 hr4 hm4 hf4 hn4 z0 z1 zz hx8
            refine hop.mono ?_
            rintro e wo ⟨g', X', Xd', rfl, lo⟩
            have HLO := Lib.hid lo
            have HRO := Lib.hid (lo.esrep HR6.out.1 HR6.out.2)
            have hS : Below wo.heap.size wo wo.drew := (Below.refl _ _).drew
            have HFR := Lib.hid (fun (W : World) (hb : Below wo.heap.size wo W) => From_rest X' g' gd size h4 W (HLO.out.next hb).lg HOK4.out HSQ4.out n HMI4.out (E.drop n) HRR4.out (by rw [List.length_drop, HEL.out]; have := H60.out; omega))
            clear hop lo
            go_wp2_with fail
            refine wp_region_held (S := fun w' => Below wo.heap.size wo w') (by kernel_rfl) ?_
            refine H_take (i := 0) (v := ?_) rfl (by as_aux_lemma => kernel_rfl) (by as_aux_lemma => kernel_rfl) (by as_aux_lemma => kernel_rfl) (fun _ _ _ h => h) (by rfl) hS ?_ ?_
            rotate_left
            · intro w' hw'; go_simp; with_reducible rfl
            go_simp
            refine H_take (i := 1) (v := ?_) rfl (by as_aux_lemma => kernel_rfl) (by as_aux_lemma => kernel_rfl) (by as_aux_lemma => kernel_rfl) (fun _ _ _ h => h) (by rfl) hS ?_ ?_
            rotate_left
            · intro w' hw'; go_simp; with_reducible rfl
            go_simp
            refine H_take (i := 2) (v := ?_) rfl (by as_aux_lemma => kernel_rfl) (by as_aux_lemma => kernel_rfl) (by as_aux_lemma => kernel_rfl) (fun _ _ _ h => h) (by rfl) hS ?_ ?_
            rotate_left
            · intro w' hw'; go_simp; with_reducible rfl
            go_simp
            refine H_take (i := 3) (v := ?_) rfl (by as_aux_lemma => kernel_rfl) (by as_aux_lemma => kernel_rfl) (by as_aux_lemma => kernel_rfl) (fun _ _ _ h => h) (by rfl) hS ?_ ?_
            rotate_left
            · intro w' hw'; go_simp; with_reducible rfl
            go_simp
            refine H_take (i := 4) (v := ?_) rfl (by as_aux_lemma => kernel_rfl) (by as_aux_lemma => kernel_rfl) (by as_aux_lemma => kernel_rfl) (fun _ _ _ h => h) (by rfl) hS ?_ ?_
            rotate_left
            · intro w' hw'; go_simp; with_reducible rfl
            go_simp
            refine H_take (i := 5) (v := ?_) rfl (by as_aux_lemma => kernel_rfl) (by as_aux_lemma => kernel_rfl) (by as_aux_lemma => kernel_rfl) (fun _ _ _ h => h) (by rfl) hS ?_ ?_
            rotate_left
            · intro w' hw'; go_simp; with_reducible rfl
            go_simp
            refine H_take (i := 6) (v := ?_) rfl (by as_aux_lemma => kernel_rfl) (by as_aux_lemma => kernel_rfl) (by as_aux_lemma => kernel_rfl) (fun _ _ _ h => h) (by rfl) hS ?_ ?_
            rotate_left
            · intro w' hw'; go_simp; with_reducible rfl
            go_simp
            refine H_take (i := 7) (v := ?_) rfl (by as_aux_lemma => kernel_rfl) (by as_aux_lemma => kernel_rfl) (by as_aux_lemma => kernel_rfl) (fun _ _ _ h => h) (by rfl) hS ?_ ?_
            rotate_left
            · intro w' hw'; go_simp; with_reducible rfl
            go_simp
            refine H_take (i := 8) (v := ?_) rfl (by as_aux_lemma => kernel_rfl) (by as_aux_lemma => kernel_rfl) (by as_aux_lemma => kernel_rfl) (fun _ _ _ h => h) (by rfl) hS ?_ ?_
            rotate_left
            · intro w' hw'; go_simp; with_reducible rfl
            go_simp
            refine H_take (i := 9) (v := ?_) rfl (by as_aux_lemma => kernel_rfl) (by as_aux_lemma => kernel_rfl) (by as_aux_lemma => kernel_rfl) (fun _ _ _ h => h) (by rfl) hS ?_ ?_
            rotate_left
            · intro w' hw'; go_simp; with_reducible rfl
            go_simp
            refine H_take (i := 11) (v := ?_) rfl (by as_aux_lemma => kernel_rfl) (by as_aux_lemma => kernel_rfl) (by as_aux_lemma => kernel_rfl) (fun _ _ _ h => h) (by rfl) hS ?_ ?_
            rotate_left
            · intro w' hw'; go_simp; with_reducible rfl
            go_simp
            refine H_take (i := 12) (v := ?_) rfl (by as_aux_lemma => kernel_rfl) (by as_aux_lemma => kernel_rfl) (by as_aux_lemma => kernel_rfl) (fun _ _ _ h => h) (by rfl) hS ?_ ?_
            rotate_left
            · intro w' hw'; go_simp; with_reducible rfl
            go_simp
            refine H_take (i := 13) (v := ?_) rfl (by as_aux_lemma => kernel_rfl) (by as_aux_lemma => kernel_rfl) (by as_aux_lemma => kernel_rfl) (fun _ _ _ h => h) (by rfl) hS ?_ ?_
            rotate_left
            · intro w' hw'; go_simp; with_reducible rfl
            go_simp
            refine H_one (i := 10) (by as_aux_lemma => kernel_rfl) rfl (by rfl) ?_
            go_simp
            refine (HFR.out _ hS).mono ?_
            rintro e wf ⟨vf, rfl, hef⟩
            have hSf : Below wo.heap.size wo wf := hS.trans (hef.1.mono hS.size)
            have HSM := Lib.hid (same_rest hS hef HEI2.out (HRC.out _ _ HRO.out.1) (fun q hq => (HRO.out.2 q hq).1))
            refine ⟨hSf, ?_⟩
            go_simp
            clear hef
            refine H_one (i := 14) (by as_aux_lemma => kernel_rfl) rfl (by rfl) ?_
            go_simp
            refine (HSM.out _ (Below.refl _ _)).mono ?_
            rintro e ws ⟨rfl, hbs⟩
            have hSs : Below wo.heap.size wo ws := hSf.trans (hbs.mono hSf.size)
            refine ⟨hSs, ?_⟩
            go_simp
            clear hbs hSf
            refine H_take (i := 15) (v := ?_) rfl (by as_aux_lemma => kernel_rfl) (by as_aux_lemma => kernel_rfl) (by as_aux_lemma => kernel_rfl) (fun _ _ _ h => h) (by rfl) hSs ?_ ?_
            rotate_left
            · intro w' hw'; go_simp; with_reducible rfl
            go_simp
            refine H_take (i := 16) (v := ?_) rfl (by as_aux_lemma => kernel_rfl) (by as_aux_lemma => kernel_rfl) (by as_aux_lemma => kernel_rfl) (fun _ _ _ h => h) (by rfl) hSs ?_ ?_
            rotate_left
            · intro w' hw'; go_simp; with_reducible rfl
            go_simp
            refine wpAnyH_done (by as_aux_lemma => kernel_rfl) ?_ _
            have HLS := Lib.hid (HLO.out.next hSs)
            have HNMC := Lib.hid (Names_any d4 Xd' gd ws HLS.out.ds.dsk HLS.out.ds.well.1.2.1 (by have := HFL4.out; omega))
            clear hS hSs HFR HSM hcut hcutA
            go_wp2_with fail
            refine HNMC.out.mono ?_
            rintro e wn ⟨vn, rfl, hbn, hrown⟩
            have HE9 : Hid (Below w.heap.size w wn) := Lib.hid (HB0.out.trans ((HLS.out.below.trans (hbn.mono HLS.out.below.size)).mono HB0.out.size))
            obtain ⟨na, nc, rfl⟩ := owned_slice hrown
            by_cases hnl : n < ts.length
            · have hnl' : (n : Int) < (ts.length : Int) := by omega
              clear hbn hrown
              go_wp2_with fail
              go_ret
              exact ⟨rfl, HE9.out⟩
            · have hnl' : decide ((n : Int) < (ts.length : Int)) = false := decide_eq_false (by omega)
              have hnl2 : decide (n < ts.length) = false := decide_eq_false hnl
              have hfl0 : d4.fs.length = 0 := by rw [HNN4.out (by rw [HEL.out]; omega)]; rfl
              rw [hfl0]
              clear hbn hrown hfl0
              go_wp2_with fail
              go_ret
              exact ⟨rfl, HE9.out⟩
          · have hg0 : (0 : Int) < (n : Int) := by omega
            have hg0' : 0 < n := by omega
            obtain ⟨p, hp⟩ : ∃ p, p = n - 1 := ⟨_, rfl⟩
            have hp1 : (n : Int) - 1 = (p : Int) := by omega
            have hNl : p < E.length := by rw [HEL.out]; omega
            have hpl : p < ts.length := by omega
            have hpl' : (p : Int) < (ts.length : Int) := by omega
            obtain ⟨b, hab, -, hNc, hcm⟩ := HAT.out.addr (by omega)
            subst hab
            obtain ⟨b', off', hb', hbF, -, c0, c1, -⟩ := HR4.out.1.elem p hNl
            simp only [Option.some.injEq, Addr.mk.injEq] at hb'
            obtain ⟨rfl, rfl, -⟩ := hb'
            have htn : E[p].term = tm := by
              have h1 := HE.out
              have h2 := drL_get ts ts.length p (by rw [drL_length]; exact hpl)
              simp only [← h1] at h2
              rw [h2, HTM.out, if_neg hn0, show n = p + 1 by omega]
              rfl
            rw [htn] at c1
            rw [Nat.zero_add] at c0 c1
            have hbz : b < w4.heap.size := (HR4.out.2 b hbF).1
            obtain ⟨W6, hW6⟩ : ∃ W, W = w4.alloc (.cells #[.int .i64 (n : Int), .int .i64 tm] 32) := ⟨_, rfl⟩
            have htb : 1 ≤ tm ∧ tm ≤ 1000 := by
              have h9 := drT_in ts n
              rw [HTM.out, if_neg hn0]
              omega
            have HB6 : Hid (Below w4.heap.size w4 W6) := Lib.hid (by rw [hW6]; exact below_alloc _ _)
            have HX6 : Hid (W6.heap[w4.heap.size]? = some (.cells #[.int .i64 (n : Int), .int .i64 tm] 32)) := Lib.hid (by rw [hW6]; exact heap_new _ _ _ rfl)
            have hpn := hp.symm
            clear hp hn0
            go_wp2_with fail
            rw [← hW6]
            obtain ⟨bm, hbm⟩ : ∃ bm, bm = w4.heap.size := ⟨_, rfl⟩
            rw [← hbm] at HX6 ⊢
            have HL6 := Lib.hid (HL4.out.next HB6.out).keep
            have HR6 := Lib.hid ((HL4.out.next HB6.out).esrep HRE.out HFQ.out)
            have HBN : Hid (¬ X3 bm ∧ ¬ Xd4 bm) := Lib.hid ⟨fun hx => by have := HL4.out.lt hx; omega, fun hx => by have := HL4.out.ds.lt _ hx; omega⟩
            clear hW6 hbm
            refine (dropTo_wrong X3 g gd size h2 W6 HL6.out.lg HPL.out.ok2 HPL.out.sq2 _ _ (by rw [HPL.out.t0]; intro h; have h := congrArg Prod.fst h; dsimp only at h; omega)).mono ?_
            rintro e w7 ⟨rfl, hb7⟩
            have HX7 := Lib.hid (old_below HX6.out hb7)
            have HL7 := Lib.hid (HL6.out.next hb7)
            have z0 := cell_of_row _ _ 0 _ _ _ HX7.out
            have z1 := cell_of_row _ _ 1 _ _ _ HX7.out
            clear hb7
            go_wp2_with fail
            refine (dropTo_wrong X3 g gd size h2 w7 HL7.out.lg HPL.out.ok2 HPL.out.sq2 _ _ (by rw [← HEL.out, HPL.out.t1]; simp)).mono ?_
            rintro e w8 ⟨rfl, hb8⟩
            have HX8 := Lib.hid (old_below HX7.out hb8)
            have HL8 := Lib.hid (HL7.out.next hb8)
            clear z0 z1 hb8
            have z0 := cell_of_row _ _ 0 _ _ _ HX8.out
            have z1 := cell_of_row _ _ 1 _ _ _ HX8.out
            simp only [List.getElem?_toArray, List.getElem?_cons_zero, List.getElem?_cons_succ] at z0 z1
            have zz : bm < w8.heap.size := lt_of_heap HX8.out
            have hx8 := HX8.out
            go_wp2_with fail
            refine (dropTo_ok _ w0 w8 X3 Xd4 g gd size h2 d2 HL8.out HPL.out.ok2 HPL.out.sq2 n _ ⟨by omega, by omega⟩ HPL.out.t0 HP0 h3 d3 HPL.out.drp).mono ?_
            rintro e w9 ⟨rfl, l9⟩
            have HL9 := Lib.hid l9
            have HR9 := Lib.hid (l9.esrep HR6.out.1 HR6.out.2)
            have HX9 := Lib.hid (l9.kp bm _ ⟨HX6.out, HBN.out⟩)
            have hS : Below w9.heap.size w9 w9.drew := (Below.refl _ _).drew
            have HFR := Lib.hid (fun (W : World) (hb : Below w9.heap.size w9 W) => From_rest X3 g gd size h3 W (HL9.out.next hb).lg HPL.out.ok3 HPL.out.sq3 n HPL.out.m3.1 (E.drop n) HPL.out.r3 (by rw [List.length_drop, HEL.out]; have := H60.out; omega))
            have hcut := HCUT.out.1
            have hcutA := HCUT.out.2
            clear z0 z1 zz hx8 l9
            go_wp2_with fail
            have hw1 : IntKind.i64.wrap ((n : Int) + 1) = (n : Int) + 1 := IntWalk.i64_in _ (by omega)
            refine wp_region_held (S := fun w' => Below w9.heap.size w9 w') (by kernel_rfl) ?_
            refine H_take (i := 0) (v := ?_) rfl (by as_aux_lemma => kernel_rfl) (by as_aux_lemma => kernel_rfl) (by as_aux_lemma => kernel_rfl) (fun _ _ _ h => h) (by rfl) hS ?_ ?_
            rotate_left
            · intro w' hw'; go_simp; with_reducible rfl
            go_simp
            refine H_take (i := 1) (v := ?_) rfl (by as_aux_lemma => kernel_rfl) (by as_aux_lemma => kernel_rfl) (by as_aux_lemma => kernel_rfl) (fun _ _ _ h => h) (by rfl) hS ?_ ?_
            rotate_left
            · intro w' hw'; go_simp; with_reducible rfl
            go_simp
            refine H_take (i := 2) (v := ?_) rfl (by as_aux_lemma => kernel_rfl) (by as_aux_lemma => kernel_rfl) (by as_aux_lemma => kernel_rfl) (fun _ _ _ h => h) (by rfl) hS ?_ ?_
            rotate_left
            · intro w' hw'; go_simp; with_reducible rfl
            go_simp
            refine H_take (i := 4) (v := ?_) rfl (by as_aux_lemma => kernel_rfl) (by as_aux_lemma => kernel_rfl) (by as_aux_lemma => kernel_rfl) (fun _ _ _ h => h) (by rfl) hS ?_ ?_
            rotate_left
            · intro w' hw'; go_simp; with_reducible rfl
            go_simp
            refine H_take (i := 5) (v := ?_) rfl (by as_aux_lemma => kernel_rfl) (by as_aux_lemma => kernel_rfl) (by as_aux_lemma => kernel_rfl) (fun _ _ _ h => h) (by rfl) hS ?_ ?_
            rotate_left
            · intro w' hw'; go_simp; with_reducible rfl
            go_simp
            refine H_take (i := 6) (v := ?_) rfl (by as_aux_lemma => kernel_rfl) (by as_aux_lemma => kernel_rfl) (by as_aux_lemma => kernel_rfl) (fun _ _ _ h => h) (by rfl) hS ?_ ?_
            rotate_left
            · intro w' hw'; go_simp; with_reducible rfl
            go_simp
            refine H_one (i := 3) (by as_aux_lemma => kernel_rfl) rfl (by rfl) ?_
            go_simp
            refine (HFR.out _ hS).mono ?_
            rintro e wf ⟨vf, rfl, hef⟩
            have hSf : Below w9.heap.size w9 wf := hS.trans (hef.1.mono hS.size)
            have HSM := Lib.hid (same_rest hS hef HEI2.out (HRC.out _ _ HR9.out.1) (fun q hq => (HR9.out.2 q hq).1))
            refine ⟨hSf, ?_⟩
            go_simp
            clear hef
            refine H_one (i := 7) (by as_aux_lemma => kernel_rfl) rfl (by rfl) ?_
            go_simp
            refine (HSM.out _ (Below.refl _ _)).mono ?_
            rintro e ws ⟨rfl, hbs⟩
            have hSs : Below w9.heap.size w9 ws := hSf.trans (hbs.mono hSf.size)
            refine ⟨hSs, ?_⟩
            go_simp
            clear hbs hSf
            refine H_take (i := 8) (v := ?_) rfl (by as_aux_lemma => kernel_rfl) (by as_aux_lemma => kernel_rfl) (by as_aux_lemma => kernel_rfl) (fun _ _ _ h => h) (by rfl) hSs ?_ ?_
            rotate_left
            · intro w' hw'; go_simp; with_reducible rfl
            go_simp
            refine wpAnyH_done (by as_aux_lemma => kernel_rfl) ?_ _
            have HL10 := Lib.hid (HL9.out.next hSs)
            clear hS hSs HFR HSM
            go_wp2_with fail
            refine (DCrash HL10.out.ds [] (fun _ => False) _ RepI.nil (fun _ h => h.elim)).mono ?_
            rintro e wc hp9
            rw [HPL.out.cr] at hp9
            obtain ⟨rfl, Xdc, lc⟩ := HL10.out.disk hp9
            have HLC := Lib.hid lc
            have HXC := Lib.hid (lc.kp bm _ ⟨HX6.out, HBN.out⟩).1
            have hx8 := HXC.out
            have z0 := cell_of_row _ _ 0 _ _ _ HXC.out
            have z1 := cell_of_row _ _ 1 _ _ _ HXC.out
            simp only [List.getElem?_toArray, List.getElem?_cons_zero, List.getElem?_cons_succ] at z0 z1
            have zz : bm < wc.heap.size := lt_of_heap HXC.out
            clear hp9 lc
            go_wp2_with fail
            obtain ⟨h4, d4, hop, ho4, hs4, hr4, hm4, hf4, hn4⟩ := reopen (K := fun k o => W6.heap[k]? = some o ∧ ¬ X3 k ∧ ¬ Xd4 k) HPL.out HLC.out.ds (fun k o hk => ⟨(HLC.out.kp k o hk).1, (HLC.out.kp k o hk).2.2⟩) ⟨⟨by omega, by omega⟩, ⟨by omega, by omega⟩⟩ hs1 HP0 HT0
            have HOK4 := Lib.hid ho4
            have HSQ4 := Lib.hid hs4
            have HRR4 := Lib.hid hr4
            have HMI4 := Lib.hid hm4
            have HFL4 := Lib.hid hf4
            have HNN4 := Lib.hid hn4
            clear ho4 hs4 hr4 hm4 hf4 hn4 z0 z1 zz hx8
            refine hop.mono ?_
            rintro e wo ⟨g', X', Xd', rfl, lo⟩
            have HLO := Lib.hid lo
            have HRO := Lib.hid (lo.esrep HR6.out.1 HR6.out.2)
            have hS : Below wo.heap.size wo wo.drew := (Below.refl _ _).drew
            have HFR := Lib.hid (fun (W : World) (hb : Below wo.heap.size wo W) => From_rest X' g' gd size h4 W (HLO.out.next hb).lg HOK4.out HSQ4.out n HMI4.out (E.drop n) HRR4.out (by rw [List.length_drop, HEL.out]; have := H60.out; omega))
            clear hop lo
            go_wp2_with fail
            refine wp_region_held (S := fun w' => Below wo.heap.size wo w') (by kernel_rfl) ?_
            refine H_take (i := 0) (v := ?_) rfl (by as_aux_lemma => kernel_rfl) (by as_aux_lemma => kernel_rfl) (by as_aux_lemma => kernel_rfl) (fun _ _ _ h => h) (by rfl) hS ?_ ?_
            rotate_left
            · intro w' hw'; go_simp; with_reducible rfl
            go_simp
            refine H_take (i := 1) (v := ?_) rfl (by as_aux_lemma => kernel_rfl) (by as_aux_lemma => kernel_rfl) (by as_aux_lemma => kernel_rfl) (fun _ _ _ h => h) (by rfl) hS ?_ ?_
            rotate_left
            · intro w' hw'; go_simp; with_reducible rfl
            go_simp
            refine H_take (i := 2) (v := ?_) rfl (by as_aux_lemma => kernel_rfl) (by as_aux_lemma => kernel_rfl) (by as_aux_lemma => kernel_rfl) (fun _ _ _ h => h) (by rfl) hS ?_ ?_
            rotate_left
            · intro w' hw'; go_simp; with_reducible rfl
            go_simp
            refine H_take (i := 3) (v := ?_) rfl (by as_aux_lemma => kernel_rfl) (by as_aux_lemma => kernel_rfl) (by as_aux_lemma => kernel_rfl) (fun _ _ _ h => h) (by rfl) hS ?_ ?_
            rotate_left
            · intro w' hw'; go_simp; with_reducible rfl
            go_simp
            refine H_take (i := 4) (v := ?_) rfl (by as_aux_lemma => kernel_rfl) (by as_aux_lemma => kernel_rfl) (by as_aux_lemma => kernel_rfl) (fun _ _ _ h => h) (by rfl) hS ?_ ?_
            rotate_left
            · intro w' hw'; go_simp; with_reducible rfl
            go_simp
            refine H_take (i := 5) (v := ?_) rfl (by as_aux_lemma => kernel_rfl) (by as_aux_lemma => kernel_rfl) (by as_aux_lemma => kernel_rfl) (fun _ _ _ h => h) (by rfl) hS ?_ ?_
            rotate_left
            · intro w' hw'; go_simp; with_reducible rfl
            go_simp
            refine H_take (i := 6) (v := ?_) rfl (by as_aux_lemma => kernel_rfl) (by as_aux_lemma => kernel_rfl) (by as_aux_lemma => kernel_rfl) (fun _ _ _ h => h) (by rfl) hS ?_ ?_
            rotate_left
            · intro w' hw'; go_simp; with_reducible rfl
            go_simp
            refine H_take (i := 7) (v := ?_) rfl (by as_aux_lemma => kernel_rfl) (by as_aux_lemma => kernel_rfl) (by as_aux_lemma => kernel_rfl) (fun _ _ _ h => h) (by rfl) hS ?_ ?_
            rotate_left
            · intro w' hw'; go_simp; with_reducible rfl
            go_simp
            refine H_take (i := 8) (v := ?_) rfl (by as_aux_lemma => kernel_rfl) (by as_aux_lemma => kernel_rfl) (by as_aux_lemma => kernel_rfl) (fun _ _ _ h => h) (by rfl) hS ?_ ?_
            rotate_left
            · intro w' hw'; go_simp; with_reducible rfl
            go_simp
            refine H_take (i := 9) (v := ?_) rfl (by as_aux_lemma => kernel_rfl) (by as_aux_lemma => kernel_rfl) (by as_aux_lemma => kernel_rfl) (fun _ _ _ h => h) (by rfl) hS ?_ ?_
            rotate_left
            · intro w' hw'; go_simp; with_reducible rfl
            go_simp
            refine H_take (i := 11) (v := ?_) rfl (by as_aux_lemma => kernel_rfl) (by as_aux_lemma => kernel_rfl) (by as_aux_lemma => kernel_rfl) (fun _ _ _ h => h) (by rfl) hS ?_ ?_
            rotate_left
            · intro w' hw'; go_simp; with_reducible rfl
            go_simp
            refine H_take (i := 12) (v := ?_) rfl (by as_aux_lemma => kernel_rfl) (by as_aux_lemma => kernel_rfl) (by as_aux_lemma => kernel_rfl) (fun _ _ _ h => h) (by rfl) hS ?_ ?_
            rotate_left
            · intro w' hw'; go_simp; with_reducible rfl
            go_simp
            refine H_take (i := 13) (v := ?_) rfl (by as_aux_lemma => kernel_rfl) (by as_aux_lemma => kernel_rfl) (by as_aux_lemma => kernel_rfl) (fun _ _ _ h => h) (by rfl) hS ?_ ?_
            rotate_left
            · intro w' hw'; go_simp; with_reducible rfl
            go_simp
            refine H_one (i := 10) (by as_aux_lemma => kernel_rfl) rfl (by rfl) ?_
            go_simp
            refine (HFR.out _ hS).mono ?_
            rintro e wf ⟨vf, rfl, hef⟩
            have hSf : Below wo.heap.size wo wf := hS.trans (hef.1.mono hS.size)
            have HSM := Lib.hid (same_rest hS hef HEI2.out (HRC.out _ _ HRO.out.1) (fun q hq => (HRO.out.2 q hq).1))
            refine ⟨hSf, ?_⟩
            go_simp
            clear hef
            refine H_one (i := 14) (by as_aux_lemma => kernel_rfl) rfl (by rfl) ?_
            go_simp
            refine (HSM.out _ (Below.refl _ _)).mono ?_
            rintro e ws ⟨rfl, hbs⟩
            have hSs : Below wo.heap.size wo ws := hSf.trans (hbs.mono hSf.size)
            refine ⟨hSs, ?_⟩
            go_simp
            clear hbs hSf
            refine H_take (i := 15) (v := ?_) rfl (by as_aux_lemma => kernel_rfl) (by as_aux_lemma => kernel_rfl) (by as_aux_lemma => kernel_rfl) (fun _ _ _ h => h) (by rfl) hSs ?_ ?_
            rotate_left
            · intro w' hw'; go_simp; with_reducible rfl
            go_simp
            refine H_take (i := 16) (v := ?_) rfl (by as_aux_lemma => kernel_rfl) (by as_aux_lemma => kernel_rfl) (by as_aux_lemma => kernel_rfl) (fun _ _ _ h => h) (by rfl) hSs ?_ ?_
            rotate_left
            · intro w' hw'; go_simp; with_reducible rfl
            go_simp
            refine wpAnyH_done (by as_aux_lemma => kernel_rfl) ?_ _
            have HLS := Lib.hid (HLO.out.next hSs)
            have HNMC := Lib.hid (Names_any d4 Xd' gd ws HLS.out.ds.dsk HLS.out.ds.well.1.2.1 (by have := HFL4.out; omega))
            clear hS hSs HFR HSM hcut hcutA
            go_wp2_with fail
            refine HNMC.out.mono ?_
            rintro e wn ⟨vn, rfl, hbn, hrown⟩
            have HE9 : Hid (Below w.heap.size w wn) := Lib.hid (HB0.out.trans ((HLS.out.below.trans (hbn.mono HLS.out.below.size)).mono HB0.out.size))
            obtain ⟨na, nc, rfl⟩ := owned_slice hrown
            by_cases hnl : n < ts.length
            · have hnl' : (n : Int) < (ts.length : Int) := by omega
              clear hbn hrown
              go_wp2_with fail
              go_ret
              exact ⟨rfl, HE9.out⟩
            · have hnl' : decide ((n : Int) < (ts.length : Int)) = false := decide_eq_false (by omega)
              have hnl2 : decide (n < ts.length) = false := decide_eq_false hnl
              have hfl0 : d4.fs.length = 0 := by rw [HNN4.out (by rw [HEL.out]; omega)]; rfl
              rw [hfl0]
              clear hbn hrown hfl0
              go_wp2_with fail
              go_ret
              exact ⟨rfl, HE9.out⟩
end Go.Proofs.YtamgjlegcegmeaaGreatDoor.M
