/- The reader of package mould: lists. -/
import Derived.Test.YtafodaoehnggfaaMouldTake4
namespace Go.Proofs.Ytafodaoehnggfaa.M
open Go.RowKit

theorem Gather.ends {w wr : World} {rb : Nat} {F : Nat → Prop} {o1 o2 : Obj} {ds : List V} {va : Option Addr} {vn vc : Nat} {lk : List UInt8} (h : Gather w rb F o1 o2 ds va vn vc lk wr) :
    RepVl wr (fun b => w.heap.size ≤ b ∧ b < wr.heap.size) ds (.slice va vn vc) := by
  obtain ⟨xs, hown, hk⟩ := h.owns
  rcases owned_kids hown hk with h1 | ⟨b, c', hv, ho, hb, hlt, h3, h4, hx⟩
  · exact .inl ⟨h1.1, by rw [h1.2]; exact Bare.nil⟩
  · refine .inr ⟨b, 0, c', hv, ⟨by omega, hlt⟩, h3, h4, RepVs.of ds fun i hi => ?_⟩
    obtain ⟨u, ha, hu⟩ := hx i hi
    exact ⟨u, ha, hu.same (fun k h => ⟨by omega, h.2.1⟩) fun _ _ => rfl⟩

/-- What a gathering call hands back, its result laid into its second box. -/
theorem Gather.done {w wr : World} {rb : Nat} {F : Nat → Prop} {o1 o2 : Obj} {ds : List V} {va : Option Addr} {vn vc : Nat} {lk : List UInt8} (h : Gather w rb F o1 o2 ds va vn vc lk wr) (hrb : rb < w.heap.size)
    (hF : ∀ b, F b → b < w.heap.size ∧ b ≠ rb) (x y z : Value) :
    ReadPost w rb F (.ok (.mk 0 [] ds, lk)) (.returned (.tuple #[.agg #[.int .u64 0, .slice none 0 0, .slice va vn vc], .int .i64 0]))
      (((wr.setCell ⟨w.heap.size + 1, 0, none⟩ x).setCell ⟨w.heap.size + 1, 1, none⟩ y).setCell ⟨w.heap.size + 1, 2, none⟩ z) := by
  obtain ⟨v, hr, hv⟩ := h.left
  obtain ⟨xs, hown, hk⟩ := h.owns
  have hz2 := lt_of_heap h.box2
  refine ⟨_, v, rfl, gb_new _ (by omega) (gb_new _ (by omega) (gb_new _ (by omega) h.grown)), ?_, hv.same (fun _ h => h) fun b hb => ?_, RepV_mk.2 ⟨_, _, rfl, by omega, .inl ⟨rfl, Bare.nil⟩, ?_⟩⟩
  · exact old_set (old_set (old_set hr (by simp; omega)) (by simp; omega)) (by simp; omega)
  · have := (hF b hb).1
    simp (disch := (simp; omega)) only [Below.heap_setCell]
  · rcases owned_kids hown hk with h1 | ⟨b, c', hv, ho, hb, hlt, h3, h4, hx⟩
    · exact .inl ⟨h1.1, by rw [h1.2]; exact Bare.nil⟩
    · refine .inr ⟨b, 0, c', hv, ⟨by omega, by simp; omega⟩, h3, h4, RepVs.of ds fun i hi => ?_⟩
      obtain ⟨u, ha, hu⟩ := hx i hi
      refine ⟨u, ha.same ?_, hu.same (fun k h => ⟨by omega, by simp; omega⟩) fun k hk2 => ?_⟩
      · simp (disch := (simp; omega)) only [Below.heap_setCell]
      · have := hk2.1
        simp (disch := (simp; omega)) only [Below.heap_setCell]

set_option maxHeartbeats 3200000 in
theorem list_any {s : Sh} (ih : KindSaid 30 s) : KindSaid 40 (.list s) := by
  intro rb F G L v pu w hr hv hs hF hG hL hss
  have hss2 : ssize s ≤ 64 := by simp only [ssize] at hss; omega
  have HSS := Lib.hid hss2
  clear hss hss2
  unfold RepS at hs
  obtain ⟨pb, poff, pc, pu1, rfl, hpb, hpat, hpu1⟩ := hs
  obtain ⟨psa, psn, psc, rfl⟩ := hpu1.agg
  have hd := fun o1 o2 => digits_left rb F L _ w o1 o2 hr hv hF
  have hrb := lt_of_heap hr
  have hpbl := hG pb hpb
  have HD := Lib.hid hd
  have HF := Lib.hid hF
  have HG := Lib.hid hG
  have HPAT := Lib.hid hpat
  have HPU := Lib.hid hpu1
  have HIH := Lib.hid ih
  have hpb1 : pb < w.heap.size := hpbl.1
  have hpb2 : pb ≠ rb := hpbl.2
  clear hd hr hv hF hG hpat hpu1 ih hpbl
  obtain ⟨iv, hiv, hiv0, hiv1, hiv2⟩ := info_parts infoVal
  have HT : Hid (takeV (.list s) L = match takeNum L with
    | .error e => .error e
    | .ok (n, r) =>
      if solid s = true ∧ r.length < n then .error 11
      else if solid s = false ∧ 1048576 < n then .error 13
      else match takeMany (takeV s) n r with
        | .error e => .error e
        | .ok (l, r') => .ok (.mk 0 [] l, r')) := Lib.hid (by rw [takeV]; rfl)
  go_enter Try.func40, Try.ntmps40
  go_wp2_with fail
  refine (HD.out _ _).mono ?_
  intro e w1 hp
  obtain ⟨hg, hb1, hb2, hp⟩ := hp
  obtain ⟨c0, c1, c2, -, -, -, hz1⟩ := block3 hb1
  obtain ⟨d0, d1, d2, g0, g1, g2, hz⟩ := block3 hb2
  have HGB := Lib.hid hg
  cases hq : takeNum L with
  | error c =>
    rw [hq] at hp
    subst hp
    have HQ := Lib.hid hq
    have hc0 : (c != 0) = true := by rcases takeNum_error hq with rfl | rfl <;> rfl
    clear hq hg hb2 hb1
    go_wp2_with fail
    refine bodyPost_ret (v := .tuple #[.agg #[.int .u64 0, .slice none 0 0, .slice none 0 0], .int .i64 c]) (by simp [results, Try.results40, go_sem, d0, d1, d2, hz]) rfl ?_
    rw [HT.out, HQ.out]
    exact ⟨rfl, gb_new _ (by omega) (gb_new _ (by omega) (gb_new _ (by omega) HGB.out))⟩
  | ok x =>
    obtain ⟨n, r⟩ := x
    rw [hq] at hp
    obtain ⟨v1, rfl, hr1, hv1⟩ := hp
    have HQ := Lib.hid hq
    have HV1 := Lib.hid hv1
    have HR1 := Lib.hid hr1
    obtain ⟨a1, k1, rfl, hrl⟩ := hv1.slice
    obtain ⟨r0, -, hrb1⟩ := block1 hr1
    have hlt := (takeNum_ok hq).2
    have HN : Hid (n < 18446744073709551616) := Lib.hid (takeNum_ok hq).1
    have hpb3 : w1.heap[pb]? = w.heap[pb]? := hg.block pb hpb1 (by simpa using hpb2)
    obtain ⟨x, y, z, hxyz, p0, p1, p2⟩ := HPAT.out.same (w' := w1) hpb3
    cases hxyz
    have HB1 := Lib.hid hb1
    have HB2 := Lib.hid hb2
    clear hq hv1 hr1 hpb3 hg hb1 hb2
    have HT2 : Hid (takeV (.list s) L = if solid s = true ∧ r.length < n then .error 11 else if solid s = false ∧ 1048576 < n then .error 13
      else match takeMany (takeV s) n r with | .error e => .error e | .ok (l, r') => .ok (.mk 0 [] l, r')) := Lib.hid (by rw [HT.out, HQ.out])
    clear HT
    by_cases hA : solid s = true ∧ r.length < n
    · have hso := hA.1
      have hn2 : (r.length : Int) < (n : Int) := by have := hA.2; omega
      have HA := Lib.hid hA
      clear hA
      rw [hso] at p2
      have HSO := Lib.hid hso
      clear hso
      go_wp2_with fail
      refine bodyPost_ret (v := .tuple #[.agg #[.int .u64 0, .slice none 0 0, .slice none 0 0], .int .i64 11]) (by simp [results, Try.results40, go_sem, d0, d1, d2, hz]) rfl ?_
      rw [HT2.out]
      simp only [if_pos HA.out]
      exact ⟨rfl, gb_new _ (by omega) (gb_new _ (by omega) (gb_new _ (by omega) HGB.out))⟩
    by_cases hB : solid s = false ∧ 1048576 < n
    · have hso := hB.1
      have hn2 : (1048576 : Int) < (n : Int) := by have := hB.2; omega
      have HA := Lib.hid hA
      have HBB := Lib.hid hB
      clear hA hB
      rw [hso] at p2
      have HSO := Lib.hid hso
      clear hso
      go_wp2_with fail
      refine bodyPost_ret (v := .tuple #[.agg #[.int .u64 0, .slice none 0 0, .slice none 0 0], .int .i64 13]) (by simp [results, Try.results40, go_sem, d0, d1, d2, hz]) rfl ?_
      rw [HT2.out]
      simp only [if_neg HA.out, if_pos HBB.out]
      exact ⟨rfl, gb_new _ (by omega) (gb_new _ (by omega) (gb_new _ (by omega) HGB.out))⟩
    have hn40 : n ≤ 1099511627776 := by
      cases hso : solid s with
      | true => have : ¬ r.length < n := fun h => hA ⟨hso, h⟩
                omega
      | false => have : ¬ 1048576 < n := fun h => hB ⟨hso, h⟩
                 omega
    have HT3 : Hid (takeV (.list s) L = match takeMany (takeV s) n r with | .error e => .error e | .ok (l, r') => .ok (.mk 0 [] l, r')) := Lib.hid (by rw [HT2.out, if_neg hA, if_neg hB])
    have hgath : Gather w rb F (.cells #[.int .u8 42, .slice (some ⟨pb, poff, none⟩) 1 pc, .bool true] 50) (.cells #[.int .u64 0, .slice none 0 0, .slice none 0 0] 31) [] none 0 0 r w1 :=
      ⟨HGB.out, HB1.out, HB2.out, ⟨_, HR1.out, HV1.out⟩, [], World.ownsRow_nil _ _ _ _, rfl⟩
    have HGA := Lib.hid hgath
    clear hgath HT2
    have key : ∀ so, so = solid s → (so = true → ¬ (r.length : Int) < (n : Int)) ∧ (so = false → ¬ (1048576 : Int) < (n : Int)) := by
      rintro so rfl
      exact ⟨fun h h2 => hA ⟨h, by omega⟩, fun h h2 => hB ⟨h, by omega⟩⟩
    clear hA hB
    cases hso : solid s
    case' true =>
      have hn2 := (key true hso.symm).1 rfl
      have hn3 : decide (r.length < n) = false := decide_eq_false (by omega)
    case' false =>
      have hn2 := (key false hso.symm).2 rfl
      have hn3 := decide_eq_false hn2
    all_goals
      rw [hso] at p2
      have HSO := Lib.hid hso
      clear key hso
      go_wp2_with fail
      go_loopw [8, 48] (fun vs i wr => ∃ (k : Nat) (ds : List V) (va : Option Addr) (vn vc : Nat) (lk : List UInt8), vs = .slice va vn vc ∧ i = .int .u64 (k : Int) ∧ k ≤ n ∧ ds.length = k ∧ lk.length ≤ r.length ∧
          takeMany (takeV s) n r = catV ds (takeMany (takeV s) (n - k) lk) ∧
          Gather w rb F (.cells #[.int .u8 42, .slice (some ⟨pb, poff, none⟩) 1 pc, .bool true] 50) (.cells #[.int .u64 0, .slice none 0 0, .slice none 0 0] 31) ds va vn vc lk wr) (fun _ i _ => n - (intOf i).toNat)
      case atStart => exact ⟨0, [], none, 0, 0, r, rfl, rfl, by omega, rfl, Nat.le_refl _, catV_nil _, HGA.out⟩
      case round =>
        obtain ⟨k, ds, va, vn, vc, lk, rfl, rfl, hk, hds, hlk, hspec, hga⟩ := hrel
        have HSP := Lib.hid hspec
        have HGA2 := Lib.hid hga
        have HDS := Lib.hid hds
        have hb1 := hga.box1
        have hb2 := hga.box2
        have hgr := hga.grown
        obtain ⟨vl, hrl1, hvl1⟩ := hga.left
        obtain ⟨c0, c1, c2, -, -, -, hz1⟩ := block3 hb1
        obtain ⟨d0, d1, d2, g0, g1, g2, hz⟩ := block3 hb2
        by_cases hkn : k < n
        · have hpb3 : wr.heap[pb]? = w.heap[pb]? := hgr.block pb hpb1 (by simpa using hpb2)
          obtain ⟨x, y, z, hxyz, p0, p1, p2⟩ := HPAT.out.same (w' := wr) hpb3
          cases hxyz
          have HC := Lib.hid (HIH.out rb F G lk vl _ wr hrl1 hvl1 (HPU.out.same (fun _ h => h) fun b hb => hgr.block b (HG.out b hb).1 (by have := (HG.out b hb).2; simpa using this))
            (fun b hb => ⟨Nat.lt_of_lt_of_le (HF.out b hb).1 hgr.size, (HF.out b hb).2⟩) (fun b hb => ⟨Nat.lt_of_lt_of_le (HG.out b hb).1 hgr.size, (HG.out b hb).2⟩) (by omega) HSS.out)
          clear hspec hga hb1 hb2 hrl1 hvl1 hpb3 hds hgr
          go_wp2_with fail
          refine HC.out.mono ?_
          intro e w2 hp
          have hfair := fair_take s lk
          cases hq : takeV s lk with
          | error c =>
            rw [hq] at hp hfair
            obtain ⟨rfl, hg2⟩ := hp
            have hc0 : (c != 0) = true := by rcases hfair with rfl | rfl <;> rfl
            have HQ2 := Lib.hid hq
            have hb2 := (hg2.block _ hz (by simp; omega)).trans HGA2.out.box2
            obtain ⟨d0, d1, d2, g0, g1, g2, hz⟩ := block3 hb2
            have HG2 := Lib.hid hg2
            clear hq hg2 hb2 hfair
            go_wp2_with fail
            refine bodyPost_ret (v := .tuple #[.agg #[.int .u64 0, .slice none 0 0, .slice none 0 0], .int .i64 c]) (by simp [results, Try.results40, go_sem, d0, d1, d2, hz]) rfl ?_
            rw [HT3.out, HSP.out, show n - k = (n - k - 1) + 1 from by omega, catV_fails HQ2.out]
            exact ⟨rfl, gb_alloc _ (gb_new _ (by omega) (gb_new _ (by omega) (gb_new _ (by omega) (gb_trans HGA2.out.grown HG2.out))))⟩
          | ok x =>
            obtain ⟨d, l1⟩ := x
            rw [hq] at hp hfair
            obtain ⟨u, v2, rfl, hg2, hr2, hv2, hu⟩ := hp
            have hl1 : l1.length ≤ lk.length := hfair
            have hga3 := HGA2.out.next hrb hg2 hr2 hv2
            have HQ2 := Lib.hid hq
            have HU := Lib.hid hu
            obtain ⟨en, eab, enb, ecb, eal, enl, ecl, rfl⟩ := hu.form
            obtain ⟨xs, hown, hkids⟩ := hga3.owns
            have hown0 : ∀ j, (Value.slice va vn vc).ownBlock = some j → j < wr.heap.size := fun j hj => by
              obtain ⟨xs0, hown0, _⟩ := HGA2.out.owns
              exact (hown0.lt j hj).2
            have HO0 := Lib.hid hown0
            have HKI := Lib.hid hkids
            have HG3 := Lib.hid hga3
            have hzz := hg2.size
            rw [HDS.out] at hown
            have HG22 := Lib.hid hg2
            clear hq hg2 hfair hr2 hv2 hu hga3 hkids hown0
            go_wp2_with (at_builtin; refine wpList_append_own2 _ rfl (.tmp 63) (.tmp 65) 26 rfl (w.heap.size + 2) 31 iv (.agg #[.int .u64 0, .slice none 0 0, .slice none 0 0]) 3 56 Try.underlying26 hiv hiv0 hiv1 hiv2 rfl (by decide) _ _ _ rfl ((hown.alloc _).alloc _) ⟨w2.heap.size + 1, 0, none⟩ 1 1 [.int .u64 en, .slice eab enb ecb, .slice eal enl ecl] rfl rfl ?c1 ?c2 ?c3 ?c4 ?c5 ?_)
            case c1 => exact three_new (by simp)
            case c2 => intro u hu; simp at hu; rcases hu with rfl | rfl | rfl <;> rfl
            case c3 => unfold maxLen; omega
            case c4 => omega
            case c5 => simp; omega
            intro v' w4 hown2 hg4 _ hwhere
            obtain ⟨a', c', hv'⟩ := owned_slice hown2
            subst hv'
            have hga4 := HG3.out.push (o3 := .cells #[.int .u64 en, .slice eab enb ecb, .slice eal enl ecl] 31) (o4 := .cells #[.int .u64 en, .slice eab enb ecb, .slice eal enl ecl] 31) hrb HF.out HU.out (by omega) (by rw [HDS.out]; exact hown) HKI.out HO0.out hown2 (by rw [HDS.out]) hg4 (by simpa using hwhere)
            have HG4 := Lib.hid hga4
            have HLEN : Hid ((ds ++ [d]).length = k + 1) := Lib.hid (by rw [List.length_append, HDS.out]; rfl)
            clear hown hown2 hg4 hwhere hga4
            go_wp2_with fail
            go_roundw
            case rel =>
              have hr : ∃ (k_1 : Nat) (ds : List V) (va : Option Addr) (vn vc : Nat) (lk : List UInt8), Value.slice a' (k + 1) c' = .slice va vn vc ∧ Value.int .u64 ((k : Int) + 1) = .int .u64 (k_1 : Int) ∧ k_1 ≤ n ∧ ds.length = k_1 ∧ lk.length ≤ r.length ∧
                  takeMany (takeV s) n r = catV ds (takeMany (takeV s) (n - k_1) lk) ∧
                  Gather w rb F (.cells #[.int .u8 42, .slice (some ⟨pb, poff, none⟩) 1 pc, .bool true] 50) (.cells #[.int .u64 0, .slice none 0 0, .slice none 0 0] 31) ds va vn vc lk w4 :=
                ⟨k + 1, ds ++ [d], a', k + 1, c', l1, rfl, by go_num, by omega, HLEN.out, by omega, by rw [HSP.out, show n - k = (n - (k + 1)) + 1 from by omega, catV_step HQ2.out], HG4.out⟩
              first | exact hr | ((repeat apply Exists.intro); exact ⟨hr, rfl⟩)
            case measure => simp [intOf]; omega
        · have HK : Hid (n - k = 0) := Lib.hid (by omega)
          clear hspec hga hb1 hb2 hrl1 hvl1 hds hgr
          go_wp2_with fail
          refine bodyPost_ret (v := .tuple #[.agg #[.int .u64 0, .slice none 0 0, .slice va vn vc], .int .i64 0]) (by simp [results, Try.results40, go_sem, d0, d1, d2, hz]) rfl ?_
          rw [HT3.out, HSP.out, HK.out, catV_ends]
          exact HGA2.out.done hrb HF.out _ _ _
end Go.Proofs.Ytafodaoehnggfaa.M
