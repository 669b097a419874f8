/- The reader of package mould: rows; so every shape is read as takeV reads it. -/
import Derived.Test.YtafodaoehnggfaaMouldTake5
namespace Go.Proofs.Ytafodaoehnggfaa.M
open Go.RowKit

set_option maxHeartbeats 3200000 in
theorem row_any {l : List Sh} (ih : ∀ s ∈ l, KindSaid 30 s) : KindSaid 41 (.row l) := by
  intro rb F G L v pu w hr hv hs hF hG hL hss
  have hll := ssizes_length l
  have hlen : l.length ≤ 64 := by simp only [ssize] at hss; omega
  have HSS : Hid (∀ s ∈ l, ssize s ≤ 64) := Lib.hid fun s hs => by
    have := ssizes_mem l s hs
    simp only [ssize] at hss
    omega
  clear hss hll
  obtain ⟨pa, pc, rfl, hps⟩ := hs.row
  have hrb := lt_of_heap hr
  obtain ⟨iv, hiv, hiv0, hiv1, hiv2⟩ := info_parts infoVal
  have hgath : Gather w rb F (.cells #[.int .u8 91, .slice pa l.length pc, .bool (solids l)] 50) (.cells #[.int .u64 0, .slice none 0 0, .slice none 0 0] 31) [] none 0 0 L
      ((w.alloc (.cells #[.int .u8 91, .slice pa l.length pc, .bool (solids l)] 50)).alloc (.cells #[.int .u64 0, .slice none 0 0, .slice none 0 0] 31)) :=
    ⟨gb_alloc _ (gb_alloc _ (gb_refl _ _)), old_alloc (heap_new _ _ _ rfl), heap_new _ _ _ (by simp), ⟨v, (boxes2 _ _ hr hv hF).1, (boxes2 _ _ hr hv hF).2⟩, [], World.ownsRow_nil _ _ _ _, rfl⟩
  have HT3 : Hid (takeV (.row l) L = match takeVs l L with | .error e => .error e | .ok (l, r') => .ok (.mk 0 [] l, r')) := Lib.hid (by rw [takeV]; rfl)
  have HGA := Lib.hid hgath
  have HF := Lib.hid hF
  have HG := Lib.hid hG
  have HP := Lib.hid hps
  have HIH := Lib.hid ih
  clear hr hv hF hG hs hps ih hgath
  go_enter Try.func41, Try.ntmps41
  go_wp2_with fail
  go_loopw [6, 14] (fun vs i wr => ∃ (k : Nat) (ds : List V) (va : Option Addr) (vn vc : Nat) (lk : List UInt8), vs = .slice va vn vc ∧ i = .int .i64 (k : Int) ∧ k ≤ l.length ∧ ds.length = k ∧ lk.length ≤ L.length ∧
      takeVs l L = catV ds (takeVs (l.drop k) lk) ∧
      Gather w rb F (.cells #[.int .u8 91, .slice pa l.length pc, .bool (solids l)] 50) (.cells #[.int .u64 0, .slice none 0 0, .slice none 0 0] 31) ds va vn vc lk wr) (fun _ i _ => l.length - (intOf i).toNat)
  case atStart => exact ⟨0, [], none, 0, 0, L, rfl, rfl, by omega, rfl, Nat.le_refl _, catV_nil _, HGA.out⟩
  case round =>
    obtain ⟨k, ds, va, vn, vc, lk, rfl, rfl, hk, hds, hlk, hspec, hga⟩ := hrel
    have HSP := Lib.hid hspec
    have HGA2 := Lib.hid hga
    have HDS := Lib.hid hds
    have hb1 := hga.box1
    have hb2 := hga.box2
    have hgr := hga.grown
    obtain ⟨vl, hrl1, hvl1⟩ := hga.left
    obtain ⟨c0, c1, c2, -, -, -, hz1⟩ := block3 hb1
    obtain ⟨d0, d1, d2, g0, g1, g2, hz⟩ := block3 hb2
    by_cases hkn : k < l.length
    · obtain ⟨pb, poff, rfl, hFp, pu, hpat, hpu⟩ := HP.out k hkn
      obtain ⟨psa, psn, psc, rfl⟩ := hpu.agg
      have hpb3 : wr.heap[pb]? = w.heap[pb]? := hgr.block pb (HG.out pb hFp).1 (by have := (HG.out pb hFp).2; simpa using this)
      obtain ⟨x, y, z, hxyz, p0, p1, p2⟩ := hpat.same (w' := wr) hpb3
      cases hxyz
      have hrbz := lt_of_heap hrl1
      have HDR : Hid (l.drop k = l[k] :: l.drop (k + 1)) := Lib.hid (List.drop_eq_getElem_cons hkn)
      have HC := Lib.hid (fun o => HIH.out l[k] (List.getElem_mem hkn) rb F G lk vl _ (wr.alloc o) (old_alloc hrl1) (hvl1.same (fun _ h => h) fun b hb => Below.heap_alloc _ _ _ (Nat.lt_of_lt_of_le (HF.out b hb).1 hgr.size))
        (hpu.same (fun _ h => h) fun b hb => by rw [Below.heap_alloc _ _ _ (Nat.lt_of_lt_of_le (HG.out b hb).1 hgr.size)]; exact hgr.block b (HG.out b hb).1 (by have := (HG.out b hb).2; simpa using this))
        (fun b hb => ⟨by have := Nat.lt_of_lt_of_le (HF.out b hb).1 hgr.size; simp; omega, (HF.out b hb).2⟩) (fun b hb => ⟨by have := Nat.lt_of_lt_of_le (HG.out b hb).1 hgr.size; simp; omega, (HG.out b hb).2⟩) (by omega) (HSS.out _ (List.getElem_mem hkn)))
      have HVL1 : Hid (RepB wr F lk vl) := Lib.hid hvl1
      have HRL1 : Hid (ReadAt wr rb vl) := Lib.hid hrl1
      have hgrz := hgr.size
      clear hspec hga hb1 hb2 hrl1 hvl1 hpb3 hds hgr hpat hpu
      go_wp2_with fail
      refine (HC.out _).mono ?_
      intro e w2 hp
      have hfair := fair_take l[k] lk
      cases hq : takeV l[k] lk with
      | error c =>
        rw [hq] at hp hfair
        obtain ⟨rfl, hg2⟩ := hp
        have hc0 : (c != 0) = true := by rcases hfair with rfl | rfl <;> rfl
        have HQ2 := Lib.hid hq
        have hg3 := gb_trans (gb_alloc _ (gb_refl wr _)) hg2
        have hb2 := (hg3.block _ hz (by simp; omega)).trans HGA2.out.box2
        obtain ⟨d0, d1, d2, g0, g1, g2, hz⟩ := block3 hb2
        have HG2 := Lib.hid hg3
        clear hq hg2 hg3 hb2 hfair
        go_wp2_with fail
        refine bodyPost_ret (v := .tuple #[.agg #[.int .u64 0, .slice none 0 0, .slice none 0 0], .int .i64 c]) (by simp [results, Try.results41, go_sem, d0, d1, d2, hz]) rfl ?_
        rw [HT3.out, HSP.out, HDR.out, catR_fails HQ2.out]
        exact ⟨rfl, gb_alloc _ (gb_new _ (by omega) (gb_new _ (by omega) (gb_new _ (by omega) (gb_trans HGA2.out.grown HG2.out))))⟩
      | ok x =>
        obtain ⟨d, l1⟩ := x
        rw [hq] at hp hfair
        obtain ⟨u, v2, rfl, hg2, hr2, hv2, hu⟩ := hp
        have hl1 : l1.length ≤ lk.length := hfair
        have hg3 := gb_trans (gb_alloc _ (gb_refl wr _)) hg2
        have hga3 := HGA2.out.next hrb hg3 hr2 hv2
        have HQ2 := Lib.hid hq
        have HU := Lib.hid hu
        obtain ⟨en, eab, enb, ecb, eal, enl, ecl, rfl⟩ := hu.form
        obtain ⟨xs, hown, hkids⟩ := hga3.owns
        have hown0 : ∀ j, (Value.slice va vn vc).ownBlock = some j → j < wr.heap.size + 1 := fun j hj => by
          obtain ⟨xs0, hown0, _⟩ := HGA2.out.owns
          have := (hown0.lt j hj).2
          omega
        have HO0 := Lib.hid hown0
        have HKI := Lib.hid hkids
        have HG3 := Lib.hid hga3
        have hzz := hg3.size
        rw [HDS.out] at hown
        clear hq hg2 hg3 hfair hr2 hv2 hu hga3 hkids hown0
        go_wp2_with (at_builtin; refine wpList_append_own2 _ rfl (.tmp 28) (.tmp 30) 26 rfl (w.heap.size + 2) 31 iv (.agg #[.int .u64 0, .slice none 0 0, .slice none 0 0]) 3 56 Try.underlying26 hiv hiv0 hiv1 hiv2 rfl (by decide) _ _ _ rfl ((hown.alloc _).alloc _) ⟨w2.heap.size + 1, 0, none⟩ 1 1 [.int .u64 en, .slice eab enb ecb, .slice eal enl ecl] rfl rfl ?c1 ?c2 ?c3 ?c4 ?c5 ?_)
        case c1 => exact three_new (by simp)
        case c2 => intro u hu; simp at hu; rcases hu with rfl | rfl | rfl <;> rfl
        case c3 => unfold maxLen; omega
        case c4 => omega
        case c5 => simp; omega
        intro v' w4 hown2 hg4 _ hwhere
        obtain ⟨a', c', hv'⟩ := owned_slice hown2
        subst hv'
        have hga4 := HG3.out.push (o3 := .cells #[.int .u64 en, .slice eab enb ecb, .slice eal enl ecl] 31) (o4 := .cells #[.int .u64 en, .slice eab enb ecb, .slice eal enl ecl] 31) hrb HF.out HU.out (by simp; omega) (by rw [HDS.out]; exact hown) HKI.out (by simpa using HO0.out) hown2 (by rw [HDS.out]) hg4 (by simpa using hwhere)
        have HG4 := Lib.hid hga4
        have HLEN : Hid ((ds ++ [d]).length = k + 1) := Lib.hid (by rw [List.length_append, HDS.out]; rfl)
        clear hown hown2 hg4 hwhere hga4
        go_wp2_with fail
        go_roundw
        case rel =>
          refine ⟨k + 1, ds ++ [d], a', k + 1, c', l1, rfl, by go_num, by omega, HLEN.out, by omega, ?_, HG4.out⟩
          rw [HSP.out, HDR.out, catR_step HQ2.out]
        case measure => simp [intOf]; omega
    · have HK : Hid (l.drop k = []) := Lib.hid (List.drop_of_length_le (by omega))
      clear hspec hga hb1 hb2 hrl1 hvl1 hds hgr
      go_wp2_with fail
      refine bodyPost_ret (v := .tuple #[.agg #[.int .u64 0, .slice none 0 0, .slice va vn vc], .int .i64 0]) (by simp [results, Try.results41, go_sem, d0, d1, d2]) rfl ?_
      rw [HT3.out, HSP.out, HK.out, catR_ends]
      exact HGA2.out.done hrb HF.out _ _ _

mutual
theorem value_any : ∀ s, KindSaid 30 s
  | .num => value_of number_any
  | .blob => value_of blob_any
  | .list s => value_of (list_any (value_any s))
  | .row l => value_of (row_any (values_any l))
theorem values_any : ∀ (l : List Sh), ∀ s ∈ l, KindSaid 30 s
  | [], s, h => by simp at h
  | t :: l, s, h => by
    rcases List.mem_cons.1 h with h | h
    · rw [h]; exact value_any t
    · exact values_any l s h
end
end Go.Proofs.Ytafodaoehnggfaa.M
