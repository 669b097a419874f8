/- The reader of package mould: lists. The reader of package mould: rows; so every shape is read as takeV reads it. Take of package mould. The document's examples, as law 1's statements begin with them. The document's Right, and the law MouldShapes. -/
import Derived.Test.YtdngfbljcmbniaaTM26
import Derived.Test.YtdngfbljcmbniaaTM29
/- Part: MouldTake5. -/
namespace Go.Proofs.Ytdngfbljcmbniaa.M
open Go.RowKit

theorem Gather.ends {w wr : World} {rb : Nat} {F : Nat → Prop} {o1 o2 : Obj} {ds : List V} {va : Option Addr} {vn vc : Nat} {lk : List UInt8} (h : Gather w rb F o1 o2 ds va vn vc lk wr) :
    RepVl wr (fun b => w.heap.size ≤ b ∧ b < wr.heap.size) ds (.slice va vn vc) := by
  obtain ⟨xs, hown, hk⟩ := h.owns
  rcases owned_kids hown hk with h1 | ⟨b, c', hv, ho, hb, hlt, h3, h4, hx⟩
  · exact .inl ⟨h1.1, by rw [h1.2]; exact Bare.nil⟩
  · refine .inr ⟨b, 0, c', hv, ⟨by omega, hlt⟩, h3, h4, RepVs.of ds fun i hi => ?_⟩
    obtain ⟨u, ha, hu⟩ := hx i hi
    exact ⟨u, ha, hu.same (fun k h => ⟨by omega, h.2.1⟩) fun _ _ => rfl⟩

/-- What a gathering call hands back, its result laid into its second box. -/
theorem Gather.done {w wr : World} {rb : Nat} {F : Nat → Prop} {o1 o2 : Obj} {ds : List V} {va : Option Addr} {vn vc : Nat} {lk : List UInt8} (h : Gather w rb F o1 o2 ds va vn vc lk wr) (hrb : rb < w.heap.size)
    (hF : ∀ b, F b → b < w.heap.size ∧ b ≠ rb) (x y z : Value) :
    ReadPost w rb F (.ok (.mk 0 [] ds, lk)) (.returned (.tuple #[.agg #[.int .u64 0, .slice none 0 0, .slice va vn vc], .int .i64 0]))
      (((wr.setCell ⟨w.heap.size + 1, 0, none⟩ x).setCell ⟨w.heap.size + 1, 1, none⟩ y).setCell ⟨w.heap.size + 1, 2, none⟩ z) := by
  obtain ⟨v, hr, hv⟩ := h.left
  obtain ⟨xs, hown, hk⟩ := h.owns
  have hz2 := lt_of_heap h.box2
  refine ⟨_, v, rfl, gb_new _ (by omega) (gb_new _ (by omega) (gb_new _ (by omega) h.grown)), ?_, hv.same (fun _ h => h) fun b hb => ?_, RepV_mk.2 ⟨_, _, rfl, by omega, .inl ⟨rfl, Bare.nil⟩, ?_⟩⟩
  · exact old_set (old_set (old_set hr (by simp; omega)) (by simp; omega)) (by simp; omega)
  · have := (hF b hb).1
    simp (disch := (simp; omega)) only [Below.heap_setCell]
  · rcases owned_kids hown hk with h1 | ⟨b, c', hv, ho, hb, hlt, h3, h4, hx⟩
    · exact .inl ⟨h1.1, by rw [h1.2]; exact Bare.nil⟩
    · refine .inr ⟨b, 0, c', hv, ⟨by omega, by simp; omega⟩, h3, h4, RepVs.of ds fun i hi => ?_⟩
      obtain ⟨u, ha, hu⟩ := hx i hi
      refine ⟨u, ha.same ?_, hu.same (fun k h => ⟨by omega, by simp; omega⟩) fun k hk2 => ?_⟩
      · simp (disch := (simp; omega)) only [Below.heap_setCell]
      · have := hk2.1
        simp (disch := (simp; omega)) only [Below.heap_setCell]

set_option maxRecDepth 20000 in
set_option maxHeartbeats 3200000 in
theorem list_any {s : Sh} (ih : KindSaid 30 s) : KindSaid 71 (.list s) := by
  intro rb F G L v pu w hr hv hs hF hG hL hss
  have hss2 : ssize s ≤ 64 := by simp only [ssize] at hss; omega
  have HSS := Lib.hid hss2
  clear hss hss2
  unfold RepS at hs
  obtain ⟨pb, poff, pc, pu1, rfl, hpb, hpat, hpu1⟩ := hs
  obtain ⟨psa, psn, psc, rfl⟩ := hpu1.agg
  have hd := fun o1 o2 => digits_left rb F L _ w o1 o2 hr hv hF
  have hrb := lt_of_heap hr
  have hpbl := hG pb hpb
  have HD := Lib.hid hd
  have HF := Lib.hid hF
  have HG := Lib.hid hG
  have HPAT := Lib.hid hpat
  have HPU := Lib.hid hpu1
  have HIH := Lib.hid ih
  have hpb1 : pb < w.heap.size := hpbl.1
  have hpb2 : pb ≠ rb := hpbl.2
  clear hd hr hv hF hG hpat hpu1 ih hpbl
  obtain ⟨iv, hiv, hiv0, hiv1, hiv2⟩ := info_parts infoVal
  have HT : Hid (takeV (.list s) L = match takeNum L with
    | .error e => .error e
    | .ok (n, r) =>
      if solid s = true ∧ r.length < n then .error 11
      else if solid s = false ∧ 1048576 < n then .error 13
      else match takeMany (takeV s) n r with
        | .error e => .error e
        | .ok (l, r') => .ok (.mk 0 [] l, r')) := Lib.hid (by rw [takeV]; rfl)
  go_enter Try.func71, Try.ntmps71
  go_wp2_with fail
  refine (HD.out _ _).mono ?_
  intro e w1 hp
  obtain ⟨hg, hb1, hb2, hp⟩ := hp
  obtain ⟨c0, c1, c2, -, -, -, hz1⟩ := block3 hb1
  obtain ⟨d0, d1, d2, g0, g1, g2, hz⟩ := block3 hb2
  have HGB := Lib.hid hg
  cases hq : takeNum L with
  | error c =>
    rw [hq] at hp
    subst hp
    have HQ := Lib.hid hq
    have hc0 : (c != 0) = true := by rcases takeNum_error hq with rfl | rfl <;> rfl
    clear hq hg hb2 hb1
    go_wp2_with fail
    refine bodyPost_ret (v := .tuple #[.agg #[.int .u64 0, .slice none 0 0, .slice none 0 0], .int .i64 c]) (by simp [results, Try.results71, go_sem, d0, d1, d2, hz]) rfl ?_
    rw [HT.out, HQ.out]
    exact ⟨rfl, gb_new _ (by omega) (gb_new _ (by omega) (gb_new _ (by omega) HGB.out))⟩
  | ok x =>
    obtain ⟨n, r⟩ := x
    rw [hq] at hp
    obtain ⟨v1, rfl, hr1, hv1⟩ := hp
    have HQ := Lib.hid hq
    have HV1 := Lib.hid hv1
    have HR1 := Lib.hid hr1
    obtain ⟨a1, k1, rfl, hrl⟩ := hv1.slice
    obtain ⟨r0, -, hrb1⟩ := block1 hr1
    have hlt := (takeNum_ok hq).2
    have HN : Hid (n < 18446744073709551616) := Lib.hid (takeNum_ok hq).1
    have hpb3 : w1.heap[pb]? = w.heap[pb]? := hg.block pb hpb1 (by simpa using hpb2)
    obtain ⟨x, y, z, hxyz, p0, p1, p2⟩ := HPAT.out.same (w' := w1) hpb3
    cases hxyz
    have HB1 := Lib.hid hb1
    have HB2 := Lib.hid hb2
    clear hq hv1 hr1 hpb3 hg hb1 hb2
    have HT2 : Hid (takeV (.list s) L = if solid s = true ∧ r.length < n then .error 11 else if solid s = false ∧ 1048576 < n then .error 13
      else match takeMany (takeV s) n r with | .error e => .error e | .ok (l, r') => .ok (.mk 0 [] l, r')) := Lib.hid (by rw [HT.out, HQ.out])
    clear HT
    by_cases hA : solid s = true ∧ r.length < n
    · have hso := hA.1
      have hn2 : (r.length : Int) < (n : Int) := by have := hA.2; omega
      have HA := Lib.hid hA
      clear hA
      rw [hso] at p2
      have HSO := Lib.hid hso
      clear hso
      go_wp2_with fail
      refine bodyPost_ret (v := .tuple #[.agg #[.int .u64 0, .slice none 0 0, .slice none 0 0], .int .i64 11]) (by simp [results, Try.results71, go_sem, d0, d1, d2, hz]) rfl ?_
      rw [HT2.out]
      simp only [if_pos HA.out]
      exact ⟨rfl, gb_new _ (by omega) (gb_new _ (by omega) (gb_new _ (by omega) HGB.out))⟩
    by_cases hB : solid s = false ∧ 1048576 < n
    · have hso := hB.1
      have hn2 : (1048576 : Int) < (n : Int) := by have := hB.2; omega
      have HA := Lib.hid hA
      have HBB := Lib.hid hB
      clear hA hB
      rw [hso] at p2
      have HSO := Lib.hid hso
      clear hso
      go_wp2_with fail
      refine bodyPost_ret (v := .tuple #[.agg #[.int .u64 0, .slice none 0 0, .slice none 0 0], .int .i64 13]) (by simp [results, Try.results71, go_sem, d0, d1, d2, hz]) rfl ?_
      rw [HT2.out]
      simp only [if_neg HA.out, if_pos HBB.out]
      exact ⟨rfl, gb_new _ (by omega) (gb_new _ (by omega) (gb_new _ (by omega) HGB.out))⟩
    have hn40 : n ≤ 1099511627776 := by
      cases hso : solid s with
      | true => have : ¬ r.length < n := fun h => hA ⟨hso, h⟩
                omega
      | false => have : ¬ 1048576 < n := fun h => hB ⟨hso, h⟩
                 omega
    have HT3 : Hid (takeV (.list s) L = match takeMany (takeV s) n r with | .error e => .error e | .ok (l, r') => .ok (.mk 0 [] l, r')) := Lib.hid (by rw [HT2.out, if_neg hA, if_neg hB])
    have hgath : Gather w rb F (.cells #[.int .u8 42, .slice (some ⟨pb, poff, none⟩) 1 pc, .bool true] 72) (.cells #[.int .u64 0, .slice none 0 0, .slice none 0 0] 45) [] none 0 0 r w1 :=
      ⟨HGB.out, HB1.out, HB2.out, ⟨_, HR1.out, HV1.out⟩, [], World.ownsRow_nil _ _ _ _, rfl⟩
    have HGA := Lib.hid hgath
    clear hgath HT2
    have key : ∀ so, so = solid s → (so = true → ¬ (r.length : Int) < (n : Int)) ∧ (so = false → ¬ (1048576 : Int) < (n : Int)) := by
      rintro so rfl
      exact ⟨fun h h2 => hA ⟨h, by omega⟩, fun h h2 => hB ⟨h, by omega⟩⟩
    clear hA hB
    cases hso : solid s
    case' true =>
      have hn2 := (key true hso.symm).1 rfl
      have hn3 : decide (r.length < n) = false := decide_eq_false (by omega)
    case' false =>
      have hn2 := (key false hso.symm).2 rfl
      have hn3 := decide_eq_false hn2
    all_goals
      rw [hso] at p2
      have HSO := Lib.hid hso
      clear key hso
      go_wp2_with fail
      go_loopw [8, 48] (fun vs i wr => ∃ (k : Nat) (ds : List V) (va : Option Addr) (vn vc : Nat) (lk : List UInt8), vs = .slice va vn vc ∧ i = .int .u64 (k : Int) ∧ k ≤ n ∧ ds.length = k ∧ lk.length ≤ r.length ∧
          takeMany (takeV s) n r = catV ds (takeMany (takeV s) (n - k) lk) ∧
          Gather w rb F (.cells #[.int .u8 42, .slice (some ⟨pb, poff, none⟩) 1 pc, .bool true] 72) (.cells #[.int .u64 0, .slice none 0 0, .slice none 0 0] 45) ds va vn vc lk wr) (fun _ i _ => n - (intOf i).toNat)
      case atStart => exact ⟨0, [], none, 0, 0, r, rfl, rfl, by omega, rfl, Nat.le_refl _, catV_nil _, HGA.out⟩
      case round =>
        obtain ⟨k, ds, va, vn, vc, lk, rfl, rfl, hk, hds, hlk, hspec, hga⟩ := hrel
        have HSP := Lib.hid hspec
        have HGA2 := Lib.hid hga
        have HDS := Lib.hid hds
        have hb1 := hga.box1
        have hb2 := hga.box2
        have hgr := hga.grown
        obtain ⟨vl, hrl1, hvl1⟩ := hga.left
        obtain ⟨c0, c1, c2, -, -, -, hz1⟩ := block3 hb1
        obtain ⟨d0, d1, d2, g0, g1, g2, hz⟩ := block3 hb2
        by_cases hkn : k < n
        · have hpb3 : wr.heap[pb]? = w.heap[pb]? := hgr.block pb hpb1 (by simpa using hpb2)
          obtain ⟨x, y, z, hxyz, p0, p1, p2⟩ := HPAT.out.same (w' := wr) hpb3
          cases hxyz
          have HC := Lib.hid (HIH.out rb F G lk vl _ wr hrl1 hvl1 (HPU.out.same (fun _ h => h) fun b hb => hgr.block b (HG.out b hb).1 (by have := (HG.out b hb).2; simpa using this))
            (fun b hb => ⟨Nat.lt_of_lt_of_le (HF.out b hb).1 hgr.size, (HF.out b hb).2⟩) (fun b hb => ⟨Nat.lt_of_lt_of_le (HG.out b hb).1 hgr.size, (HG.out b hb).2⟩) (by omega) HSS.out)
          clear hspec hga hb1 hb2 hrl1 hvl1 hpb3 hds hgr
          go_wp2_with fail
          refine HC.out.mono ?_
          intro e w2 hp
          have hfair := fair_take s lk
          cases hq : takeV s lk with
          | error c =>
            rw [hq] at hp hfair
            obtain ⟨rfl, hg2⟩ := hp
            have hc0 : (c != 0) = true := by rcases hfair with rfl | rfl <;> rfl
            have HQ2 := Lib.hid hq
            have hb2 := (hg2.block _ hz (by simp; omega)).trans HGA2.out.box2
            obtain ⟨d0, d1, d2, g0, g1, g2, hz⟩ := block3 hb2
            have HG2 := Lib.hid hg2
            clear hq hg2 hb2 hfair
            go_wp2_with fail
            refine bodyPost_ret (v := .tuple #[.agg #[.int .u64 0, .slice none 0 0, .slice none 0 0], .int .i64 c]) (by simp [results, Try.results71, go_sem, d0, d1, d2, hz]) rfl ?_
            rw [HT3.out, HSP.out, show n - k = (n - k - 1) + 1 from by omega, catV_fails HQ2.out]
            exact ⟨rfl, gb_alloc _ (gb_new _ (by omega) (gb_new _ (by omega) (gb_new _ (by omega) (gb_trans HGA2.out.grown HG2.out))))⟩
          | ok x =>
            obtain ⟨d, l1⟩ := x
            rw [hq] at hp hfair
            obtain ⟨u, v2, rfl, hg2, hr2, hv2, hu⟩ := hp
            have hl1 : l1.length ≤ lk.length := hfair
            have hga3 := HGA2.out.next hrb hg2 hr2 hv2
            have HQ2 := Lib.hid hq
            have HU := Lib.hid hu
            obtain ⟨en, eab, enb, ecb, eal, enl, ecl, rfl⟩ := hu.form
            obtain ⟨xs, hown, hkids⟩ := hga3.owns
            have hown0 : ∀ j, (Value.slice va vn vc).ownBlock = some j → j < wr.heap.size := fun j hj => by
              obtain ⟨xs0, hown0, _⟩ := HGA2.out.owns
              exact (hown0.lt j hj).2
            have HO0 := Lib.hid hown0
            have HKI := Lib.hid hkids
            have HG3 := Lib.hid hga3
            have hzz := hg2.size
            rw [HDS.out] at hown
            have HG22 := Lib.hid hg2
            clear hq hg2 hfair hr2 hv2 hu hga3 hkids hown0
            go_wp2_with (at_builtin; refine wpList_append_own2 _ rfl (.tmp 63) (.tmp 65) 43 rfl (w.heap.size + 2) 45 iv (.agg #[.int .u64 0, .slice none 0 0, .slice none 0 0]) 3 56 Try.underlying43 hiv hiv0 hiv1 hiv2 rfl (by decide) _ _ _ rfl ((hown.alloc _).alloc _) ⟨w2.heap.size + 1, 0, none⟩ 1 1 [.int .u64 en, .slice eab enb ecb, .slice eal enl ecl] rfl rfl ?c1 ?c2 ?c3 ?c4 ?c5 ?_)
            case c1 => exact three_new (by simp)
            case c2 => intro u hu; simp at hu; rcases hu with rfl | rfl | rfl <;> rfl
            case c3 => unfold maxLen; omega
            case c4 => omega
            case c5 => simp; omega
            intro v' w4 hown2 hg4 _ hwhere
            obtain ⟨a', c', hv'⟩ := owned_slice hown2
            subst hv'
            have hga4 := HG3.out.push (o3 := .cells #[.int .u64 en, .slice eab enb ecb, .slice eal enl ecl] 45) (o4 := .cells #[.int .u64 en, .slice eab enb ecb, .slice eal enl ecl] 45) hrb HF.out HU.out (by omega) (by rw [HDS.out]; exact hown) HKI.out HO0.out hown2 (by rw [HDS.out]) hg4 (by simpa using hwhere)
            have HG4 := Lib.hid hga4
            have HLEN : Hid ((ds ++ [d]).length = k + 1) := Lib.hid (by rw [List.length_append, HDS.out]; rfl)
            clear hown hown2 hg4 hwhere hga4
            go_wp2_with fail
            go_roundw
            case rel =>
              have hr : ∃ (k_1 : Nat) (ds : List V) (va : Option Addr) (vn vc : Nat) (lk : List UInt8), Value.slice a' (k + 1) c' = .slice va vn vc ∧ Value.int .u64 ((k : Int) + 1) = .int .u64 (k_1 : Int) ∧ k_1 ≤ n ∧ ds.length = k_1 ∧ lk.length ≤ r.length ∧
                  takeMany (takeV s) n r = catV ds (takeMany (takeV s) (n - k_1) lk) ∧
                  Gather w rb F (.cells #[.int .u8 42, .slice (some ⟨pb, poff, none⟩) 1 pc, .bool true] 72) (.cells #[.int .u64 0, .slice none 0 0, .slice none 0 0] 45) ds va vn vc lk w4 :=
                ⟨k + 1, ds ++ [d], a', k + 1, c', l1, rfl, by go_num, by omega, HLEN.out, by omega, by rw [HSP.out, show n - k = (n - (k + 1)) + 1 from by omega, catV_step HQ2.out], HG4.out⟩
              first | exact hr | ((repeat apply Exists.intro); exact ⟨hr, rfl⟩)
            case measure => simp [intOf]; omega
        · have HK : Hid (n - k = 0) := Lib.hid (by omega)
          clear hspec hga hb1 hb2 hrl1 hvl1 hds hgr
          go_wp2_with fail
          refine bodyPost_ret (v := .tuple #[.agg #[.int .u64 0, .slice none 0 0, .slice va vn vc], .int .i64 0]) (by simp [results, Try.results71, go_sem, d0, d1, d2, hz]) rfl ?_
          rw [HT3.out, HSP.out, HK.out, catV_ends]
          exact HGA2.out.done hrb HF.out _ _ _
end Go.Proofs.Ytdngfbljcmbniaa.M

/- Part: MouldTake6. -/
namespace Go.Proofs.Ytdngfbljcmbniaa.M
open Go.RowKit

set_option maxRecDepth 20000 in
set_option maxHeartbeats 3200000 in
theorem row_any {l : List Sh} (ih : ∀ s ∈ l, KindSaid 30 s) : KindSaid 72 (.row l) := by
  intro rb F G L v pu w hr hv hs hF hG hL hss
  have hll := ssizes_length l
  have hlen : l.length ≤ 64 := by simp only [ssize] at hss; omega
  have HSS : Hid (∀ s ∈ l, ssize s ≤ 64) := Lib.hid fun s hs => by
    have := ssizes_mem l s hs
    simp only [ssize] at hss
    omega
  clear hss hll
  obtain ⟨pa, pc, rfl, hps⟩ := hs.row
  have hrb := lt_of_heap hr
  obtain ⟨iv, hiv, hiv0, hiv1, hiv2⟩ := info_parts infoVal
  have hgath : Gather w rb F (.cells #[.int .u8 91, .slice pa l.length pc, .bool (solids l)] 72) (.cells #[.int .u64 0, .slice none 0 0, .slice none 0 0] 45) [] none 0 0 L
      ((w.alloc (.cells #[.int .u8 91, .slice pa l.length pc, .bool (solids l)] 72)).alloc (.cells #[.int .u64 0, .slice none 0 0, .slice none 0 0] 45)) :=
    ⟨gb_alloc _ (gb_alloc _ (gb_refl _ _)), old_alloc (heap_new _ _ _ rfl), heap_new _ _ _ (by simp), ⟨v, (boxes2 _ _ hr hv hF).1, (boxes2 _ _ hr hv hF).2⟩, [], World.ownsRow_nil _ _ _ _, rfl⟩
  have HT3 : Hid (takeV (.row l) L = match takeVs l L with | .error e => .error e | .ok (l, r') => .ok (.mk 0 [] l, r')) := Lib.hid (by rw [takeV]; rfl)
  have HGA := Lib.hid hgath
  have HF := Lib.hid hF
  have HG := Lib.hid hG
  have HP := Lib.hid hps
  have HIH := Lib.hid ih
  clear hr hv hF hG hs hps ih hgath
  go_enter Try.func72, Try.ntmps72
  go_wp2_with fail
  go_loopw [6, 14] (fun vs i wr => ∃ (k : Nat) (ds : List V) (va : Option Addr) (vn vc : Nat) (lk : List UInt8), vs = .slice va vn vc ∧ i = .int .i64 (k : Int) ∧ k ≤ l.length ∧ ds.length = k ∧ lk.length ≤ L.length ∧
      takeVs l L = catV ds (takeVs (l.drop k) lk) ∧
      Gather w rb F (.cells #[.int .u8 91, .slice pa l.length pc, .bool (solids l)] 72) (.cells #[.int .u64 0, .slice none 0 0, .slice none 0 0] 45) ds va vn vc lk wr) (fun _ i _ => l.length - (intOf i).toNat)
  case atStart => exact ⟨0, [], none, 0, 0, L, rfl, rfl, by omega, rfl, Nat.le_refl _, catV_nil _, HGA.out⟩
  case round =>
    obtain ⟨k, ds, va, vn, vc, lk, rfl, rfl, hk, hds, hlk, hspec, hga⟩ := hrel
    have HSP := Lib.hid hspec
    have HGA2 := Lib.hid hga
    have HDS := Lib.hid hds
    have hb1 := hga.box1
    have hb2 := hga.box2
    have hgr := hga.grown
    obtain ⟨vl, hrl1, hvl1⟩ := hga.left
    obtain ⟨c0, c1, c2, -, -, -, hz1⟩ := block3 hb1
    obtain ⟨d0, d1, d2, g0, g1, g2, hz⟩ := block3 hb2
    by_cases hkn : k < l.length
    · obtain ⟨pb, poff, rfl, hFp, pu, hpat, hpu⟩ := HP.out k hkn
      obtain ⟨psa, psn, psc, rfl⟩ := hpu.agg
      have hpb3 : wr.heap[pb]? = w.heap[pb]? := hgr.block pb (HG.out pb hFp).1 (by have := (HG.out pb hFp).2; simpa using this)
      obtain ⟨x, y, z, hxyz, p0, p1, p2⟩ := hpat.same (w' := wr) hpb3
      cases hxyz
      have hrbz := lt_of_heap hrl1
      have HDR : Hid (l.drop k = l[k] :: l.drop (k + 1)) := Lib.hid (List.drop_eq_getElem_cons hkn)
      have HC := Lib.hid (fun o => HIH.out l[k] (List.getElem_mem hkn) rb F G lk vl _ (wr.alloc o) (old_alloc hrl1) (hvl1.same (fun _ h => h) fun b hb => Below.heap_alloc _ _ _ (Nat.lt_of_lt_of_le (HF.out b hb).1 hgr.size))
        (hpu.same (fun _ h => h) fun b hb => by rw [Below.heap_alloc _ _ _ (Nat.lt_of_lt_of_le (HG.out b hb).1 hgr.size)]; exact hgr.block b (HG.out b hb).1 (by have := (HG.out b hb).2; simpa using this))
        (fun b hb => ⟨by have := Nat.lt_of_lt_of_le (HF.out b hb).1 hgr.size; simp; omega, (HF.out b hb).2⟩) (fun b hb => ⟨by have := Nat.lt_of_lt_of_le (HG.out b hb).1 hgr.size; simp; omega, (HG.out b hb).2⟩) (by omega) (HSS.out _ (List.getElem_mem hkn)))
      have HVL1 : Hid (RepB wr F lk vl) := Lib.hid hvl1
      have HRL1 : Hid (ReadAt wr rb vl) := Lib.hid hrl1
      have hgrz := hgr.size
      clear hspec hga hb1 hb2 hrl1 hvl1 hpb3 hds hgr hpat hpu
      go_wp2_with fail
      refine (HC.out _).mono ?_
      intro e w2 hp
      have hfair := fair_take l[k] lk
      cases hq : takeV l[k] lk with
      | error c =>
        rw [hq] at hp hfair
        obtain ⟨rfl, hg2⟩ := hp
        have hc0 : (c != 0) = true := by rcases hfair with rfl | rfl <;> rfl
        have HQ2 := Lib.hid hq
        have hg3 := gb_trans (gb_alloc _ (gb_refl wr _)) hg2
        have hb2 := (hg3.block _ hz (by simp; omega)).trans HGA2.out.box2
        obtain ⟨d0, d1, d2, g0, g1, g2, hz⟩ := block3 hb2
        have HG2 := Lib.hid hg3
        clear hq hg2 hg3 hb2 hfair
        go_wp2_with fail
        refine bodyPost_ret (v := .tuple #[.agg #[.int .u64 0, .slice none 0 0, .slice none 0 0], .int .i64 c]) (by simp [results, Try.results72, go_sem, d0, d1, d2, hz]) rfl ?_
        rw [HT3.out, HSP.out, HDR.out, catR_fails HQ2.out]
        exact ⟨rfl, gb_alloc _ (gb_new _ (by omega) (gb_new _ (by omega) (gb_new _ (by omega) (gb_trans HGA2.out.grown HG2.out))))⟩
      | ok x =>
        obtain ⟨d, l1⟩ := x
        rw [hq] at hp hfair
        obtain ⟨u, v2, rfl, hg2, hr2, hv2, hu⟩ := hp
        have hl1 : l1.length ≤ lk.length := hfair
        have hg3 := gb_trans (gb_alloc _ (gb_refl wr _)) hg2
        have hga3 := HGA2.out.next hrb hg3 hr2 hv2
        have HQ2 := Lib.hid hq
        have HU := Lib.hid hu
        obtain ⟨en, eab, enb, ecb, eal, enl, ecl, rfl⟩ := hu.form
        obtain ⟨xs, hown, hkids⟩ := hga3.owns
        have hown0 : ∀ j, (Value.slice va vn vc).ownBlock = some j → j < wr.heap.size + 1 := fun j hj => by
          obtain ⟨xs0, hown0, _⟩ := HGA2.out.owns
          have := (hown0.lt j hj).2
          omega
        have HO0 := Lib.hid hown0
        have HKI := Lib.hid hkids
        have HG3 := Lib.hid hga3
        have hzz := hg3.size
        rw [HDS.out] at hown
        clear hq hg2 hg3 hfair hr2 hv2 hu hga3 hkids hown0
        go_wp2_with (at_builtin; refine wpList_append_own2 _ rfl (.tmp 28) (.tmp 30) 43 rfl (w.heap.size + 2) 45 iv (.agg #[.int .u64 0, .slice none 0 0, .slice none 0 0]) 3 56 Try.underlying43 hiv hiv0 hiv1 hiv2 rfl (by decide) _ _ _ rfl ((hown.alloc _).alloc _) ⟨w2.heap.size + 1, 0, none⟩ 1 1 [.int .u64 en, .slice eab enb ecb, .slice eal enl ecl] rfl rfl ?c1 ?c2 ?c3 ?c4 ?c5 ?_)
        case c1 => exact three_new (by simp)
        case c2 => intro u hu; simp at hu; rcases hu with rfl | rfl | rfl <;> rfl
        case c3 => unfold maxLen; omega
        case c4 => omega
        case c5 => simp; omega
        intro v' w4 hown2 hg4 _ hwhere
        obtain ⟨a', c', hv'⟩ := owned_slice hown2
        subst hv'
        have hga4 := HG3.out.push (o3 := .cells #[.int .u64 en, .slice eab enb ecb, .slice eal enl ecl] 45) (o4 := .cells #[.int .u64 en, .slice eab enb ecb, .slice eal enl ecl] 45) hrb HF.out HU.out (by simp; omega) (by rw [HDS.out]; exact hown) HKI.out (by simpa using HO0.out) hown2 (by rw [HDS.out]) hg4 (by simpa using hwhere)
        have HG4 := Lib.hid hga4
        have HLEN : Hid ((ds ++ [d]).length = k + 1) := Lib.hid (by rw [List.length_append, HDS.out]; rfl)
        clear hown hown2 hg4 hwhere hga4
        go_wp2_with fail
        go_roundw
        case rel =>
          refine ⟨k + 1, ds ++ [d], a', k + 1, c', l1, rfl, by go_num, by omega, HLEN.out, by omega, ?_, HG4.out⟩
          rw [HSP.out, HDR.out, catR_step HQ2.out]
        case measure => simp [intOf]; omega
    · have HK : Hid (l.drop k = []) := Lib.hid (List.drop_of_length_le (by omega))
      clear hspec hga hb1 hb2 hrl1 hvl1 hds hgr
      go_wp2_with fail
      refine bodyPost_ret (v := .tuple #[.agg #[.int .u64 0, .slice none 0 0, .slice va vn vc], .int .i64 0]) (by simp [results, Try.results72, go_sem, d0, d1, d2]) rfl ?_
      rw [HT3.out, HSP.out, HK.out, catR_ends]
      exact HGA2.out.done hrb HF.out _ _ _

mutual
theorem value_any : ∀ s, KindSaid 30 s
  | .num => value_of number_any
  | .blob => value_of blob_any
  | .list s => value_of (list_any (value_any s))
  | .row l => value_of (row_any (values_any l))
theorem values_any : ∀ (l : List Sh), ∀ s ∈ l, KindSaid 30 s
  | [], s, h => by simp at h
  | t :: l, s, h => by
    rcases List.mem_cons.1 h with h | h
    · rw [h]; exact value_any t
    · exact values_any l s h
end
end Go.Proofs.Ytdngfbljcmbniaa.M

/- Part: MouldTake. -/
namespace Go.Proofs.Ytdngfbljcmbniaa.M
open Go.RowKit

/-- What Take answers: an error's number, or the value. -/
def takeAt (s : List UInt8) (L : List UInt8) : Except Int V :=
  match shape s with
  | none => .error 10
  | some sh => match takeV sh L with
    | .error c => .error c
    | .ok (d, l) => if l.isEmpty then .ok d else .error 12

def TakePost (w : World) (r : Except Int V) (e : Ending) (w' : World) : Prop :=
  Below w.heap.size w w' ∧ match r with
  | .error c => e = .returned (.tuple #[.agg #[.int .u64 0, .slice none 0 0, .slice none 0 0], .int .i64 c])
  | .ok d => ∃ u, e = .returned (.tuple #[u, .int .i64 0]) ∧ RepV w' (fun b => w.heap.size ≤ b ∧ b < w'.heap.size) d u

theorem below_of_grown {w w0 w1 : World} {rb : Nat} (h0 : Below w.heap.size w w0) (hg : w0.grownBy w1 (some rb)) (hrb : w.heap.size ≤ rb) : Below w.heap.size w w1 :=
  ⟨hg.os.trans h0.os, hg.tape.trans h0.tape, hg.output.trans h0.output, Nat.le_trans h0.size hg.size, fun k hk => (hg.block k (Nat.lt_of_lt_of_le hk h0.size) (by simp; omega)).trans (h0.block k hk)⟩

set_option maxRecDepth 20000 in
set_option maxHeartbeats 1600000 in
theorem Take_any (s : ByteArray) (L : List UInt8) (F : Nat → Prop) (v : Value) (w : World) (hs : s.size ≤ 9223372036854775807) (hv : RepB w F L v) (hF : ∀ b, F b → b < w.heap.size) (hL : L.length ≤ 1099511627776) :
    Calls Try.prog 16 #[.string s, v] w (TakePost w (takeAt s.data.toList L)) := by
  have HV := Lib.hid hv
  have HF := Lib.hid hF
  obtain ⟨va, vc, rfl, _⟩ := hv.slice
  clear hv hF
  go_enter Try.func16, Try.ntmps16
  go_wp2_with fail
  refine (parse_any s _ hs).mono ?_
  rintro e w1 ⟨hb, hr⟩
  obtain ⟨c0, c1, c2, f0, f1, f2, hz⟩ := three_kept hb
  have hbox := old_below (heap_new w (.cells #[.int .u64 0, .slice none 0 0, .slice none 0 0] 45) _ rfl) hb
  have hB1 : Below w.heap.size w w1 := (below_alloc _ _).trans (hb.mono (by simp))
  have HBOX := Lib.hid hbox
  have HB1 := Lib.hid hB1
  have hsz := hb.size
  simp only [World.size_alloc] at hsz
  cases hq : shape s.data.toList with
  | none =>
    rw [hq] at hr
    subst hr
    have HQ : Hid (takeAt s.data.toList L = .error 10) := Lib.hid (by unfold takeAt; rw [hq])
    clear hq hb hbox hB1
    go_wp2_with fail
    refine bodyPost_ret (v := .tuple #[.agg #[.int .u64 0, .slice none 0 0, .slice none 0 0], .int .i64 10]) (by simp [results, Try.results16, go_sem, c0, c1, c2, hz]) rfl ?_
    rw [HQ.out]
    exact ⟨(((HB1.out.setCell (by simp) _).setCell (by simp) _).setCell (by simp) _).alloc (by simp; omega) _, rfl⟩
  | some sh =>
    rw [hq] at hr
    obtain ⟨u, rfl, hu⟩ := hr
    have HQ : Hid (takeAt s.data.toList L = match takeV sh L with | .error c => .error c | .ok (d, l) => if l.isEmpty then .ok d else .error 12) := Lib.hid (by unfold takeAt; rw [hq])
    have HSZ := Lib.hid (shape_size hq)
    obtain ⟨pa, pn, pc, rfl⟩ := hu.agg
    have hcall : ∀ o, Calls Try.prog 30 #[.pointer (some ⟨w1.heap.size + 1, 0, none⟩), .agg #[.int .u8 (kind sh), .slice pa pn pc, .bool (solid sh)]]
        ((w1.alloc o).alloc (.cells #[.slice va L.length vc] 76)) (ReadPost ((w1.alloc o).alloc (.cells #[.slice va L.length vc] 76)) (w1.heap.size + 1) F (takeV sh L)) := fun o =>
      value_any sh (w1.heap.size + 1) F (fun b => w.heap.size + 1 ≤ b ∧ b < w1.heap.size) L _ _ _ (heap_new _ _ _ (by simp))
        (HV.out.same (fun _ h => h) fun b hb2 => by
          have := HF.out b hb2
          rw [Below.heap_alloc _ _ _ (by simp; omega), Below.heap_alloc _ _ _ (by omega)]
          exact hB1.block b this)
        (hu.same (fun b hb2 => by simpa using hb2) fun b hb2 => by
          simp at hb2
          rw [Below.heap_alloc _ _ _ (by simp; omega), Below.heap_alloc _ _ _ hb2.2])
        (fun b hb2 => by have := HF.out b hb2; simp; omega) (fun b hb2 => by simp; omega) hL HSZ.out
    have HC := Lib.hid hcall
    clear hq hb hbox hB1 hu hcall
    go_wp2_with fail
    refine (HC.out _).mono ?_
    intro e w2 hp
    obtain ⟨n, ab, nb, cb, al, nl, cl, c, he, hg⟩ := hp.form
    have hB2 : Below w.heap.size w w2 := below_of_grown ((HB1.out.alloc (by omega) _).alloc (by simp; omega) _) hg (by omega)
    have hbox2 : w2.heap[w.heap.size]? = _ := (hg.block w.heap.size (by simp; omega) (by simp; omega)).trans (old_alloc (old_alloc HBOX.out))
    obtain ⟨c0, c1, c2, f0, f1, f2, hz⟩ := block3 hbox2
    have hgz := hg.size
    simp only [World.size_alloc] at hgz
    have HB2 := Lib.hid hB2
    have hfair := fair_take sh L
    cases hq2 : takeV sh L with
    | error c =>
      rw [hq2] at hp hfair
      obtain ⟨rfl, hg2⟩ := hp
      have hc0 : (c != 0) = true := by rcases hfair with rfl | rfl <;> rfl
      have HQ2 := Lib.hid hq2
      clear hq2 hg hg2 hB2 hbox2 hfair he
      go_wp2_with fail
      refine bodyPost_ret (v := .tuple #[.agg #[.int .u64 0, .slice none 0 0, .slice none 0 0], .int .i64 c]) (by simp [results, Try.results16, go_sem, c0, c1, c2, hz]) rfl ?_
      rw [HQ.out, HQ2.out]
      exact ⟨(((HB2.out.setCell (by simp) _).setCell (by simp) _).setCell (by simp) _).alloc (by simp; omega) _, rfl⟩
    | ok x =>
      obtain ⟨d, l1⟩ := x
      rw [hq2] at hp
      obtain ⟨u, v2, rfl, hg2, hr2, hv2, hu⟩ := hp
      obtain ⟨en, eab, enb, ecb, eal, enl, ecl, rfl⟩ := hu.form
      obtain ⟨la, lc, rfl, hll⟩ := hv2.slice
      obtain ⟨r0, -, hrz⟩ := block1 hr2
      have HQ2 := Lib.hid hq2
      have HU := Lib.hid hu
      clear hq2 hg hg2 hB2 hbox2 hfair he hu hv2 hr2
      cases l1 with
      | nil =>
        simp only [List.length_nil] at r0
        go_wp2_with fail
        refine bodyPost_ret (v := .tuple #[.agg #[.int .u64 en, .slice eab enb ecb, .slice eal enl ecl], .int .i64 0]) (by simp [results, Try.results16, go_sem, c0, c1, c2, hz]) rfl ?_
        rw [HQ.out, HQ2.out]
        refine ⟨(((HB2.out.setCell (by simp) _).setCell (by simp) _).setCell (by simp) _).alloc (by simp; omega) _, _, rfl, HU.out.same (fun b hb2 => ?_) fun b hb2 => ?_⟩
        · simp at hb2 ⊢; omega
        · simp only [World.size_alloc] at hb2
          rw [Below.heap_alloc _ _ _ (by simp; omega)]
          simp (disch := (simp; omega)) only [Below.heap_setCell]
      | cons x l2 =>
        simp only [List.length_cons] at r0 hll
        go_wp2_with fail
        refine bodyPost_ret (v := .tuple #[.agg #[.int .u64 0, .slice none 0 0, .slice none 0 0], .int .i64 12]) (by simp [results, Try.results16, go_sem, c0, c1, c2, hz]) rfl ?_
        rw [HQ.out, HQ2.out]
        exact ⟨(((HB2.out.setCell (by simp) _).setCell (by simp) _).setCell (by simp) _).alloc (by simp; omega) _, rfl⟩
end Go.Proofs.Ytdngfbljcmbniaa.M

/- Part: Awake1. -/
namespace Go.Proofs.Ytdngfbljcmbniaa.M
open Go.RowKit

theorem ex1 : putAll [110] [.mk 258 [] []] = .ok [2, 1, 2] := by kernel_rfl
theorem ex2 : putAll [91, 110, 98, 93] [.mk 0 [] [.mk 7 [] [], .mk 0 [] []]] = .ok [1, 7, 0] := by kernel_rfl
theorem ex3 : takeAt [110] [2, 0, 1] = .error 13 := by kernel_rfl
theorem ex4 : takeAt [42, 110] [1, 2, 1, 1, 0] = .ok (.mk 0 [] [.mk 1 [] [], .mk 0 [] []]) := by kernel_rfl
theorem ex5 : (shape [91, 93]).isSome = true := by kernel_rfl
theorem ex6 : (shape [42]).isSome = false := by kernel_rfl

theorem RepT.one {w : World} {s : ByteArray} {t : TypeId} {g : Nat} (hg : g = w.heap.size) (hs : s.size ≤ 9223372036854775807) :
    RepT (w.alloc (.cells #[.string s] t)) [s] (.slice (some ⟨g, 0, none⟩) 1 1) := by
  subst hg
  refine ⟨_, 1, rfl, by simp, fun i hi => ?_⟩
  obtain rfl : i = 0 := by simpa using hi
  exact ⟨w.heap.size, 0, rfl, cell_of_row _ w.heap.size 0 _ t _ (heap_alloc_new w (.cells #[.string s] t)), hs⟩

end Go.Proofs.Ytdngfbljcmbniaa.M

/- Part: RefRight. -/
namespace Go.Proofs.Ytdngfbljcmbniaa.M
open Go.RowKit

theorem shape_len {t : List UInt8} {s : Sh} (h : shape t = some s) : 0 < t.length ∧ t.length ≤ 64 ∧ pShape 9 t = some (s, []) := by
  unfold shape at h
  split at h
  · cases h
  · split at h
    · rename_i s' hq
      cases h
      have := pShape_less _ _ _ _ hq
      simp at this
      exact ⟨by omega, by omega, hq⟩
    · cases h

theorem RepT.nil (w : World) : RepT w [] (.slice none 0 0) := ⟨none, 0, rfl, by simp, fun i hi => by simp at hi⟩

theorem RepT.two {w : World} {s r : ByteArray} {t : TypeId} {g : Nat} (hg : g = w.heap.size) (hs : s.size ≤ 9223372036854775807) (hr : r.size ≤ 9223372036854775807) :
    RepT (w.alloc (.cells #[.string s, .string r] t)) [s, r] (.slice (some ⟨g, 0, none⟩) 2 2) := by
  subst hg
  refine ⟨_, 2, rfl, by simp, fun i hi => ?_⟩
  have h2 : i < 2 := by simpa using hi
  have hc := fun j => cell_of_row _ w.heap.size j _ t _ (heap_alloc_new w (.cells #[.string s, .string r] t))
  obtain rfl | rfl : i = 0 ∨ i = 1 := by omega
  · exact ⟨w.heap.size, 0, rfl, hc 0, hs⟩
  · exact ⟨w.heap.size, 0, rfl, hc 1, hr⟩

end Go.Proofs.Ytdngfbljcmbniaa.M
