/- The reader of package mould: lists. The reader of package mould: rows; so every shape is read as takeV reads it. Take of package mould. Numbers and their forms: there and back. The register of CRC-32C, as plain numbers: it is linear, and leads nothing but 0 to 0. No program is named here. A disk, as plain lists: the document's layer 3 by definition. No program is named here. How the document's disk lies in memory. The files of a disk, as a set by names: what the plain operations do to it. No program is named here. How the program's disk lies in memory: a map of files by their names. The program's disk in memory: a file less, a file more. -/
import Derived.Test.YtgakcaobalfpjaaGreatDoorHS2
import Derived.WalkKit
import Derived.Test.YtgakcaobalfpjaaGreatDoorHS1
import Derived.Sort.Walk0
import Derived.Maps.RangeWalk
import Derived.Maps.OwnOps
/- Part: MouldTake5. -/
namespace Go.Proofs.YtgakcaobalfpjaaGreatDoor.M
open Go.RowKit

theorem Gather.ends {w wr : World} {rb : Nat} {F : Nat → Prop} {o1 o2 : Obj} {ds : List V} {va : Option Addr} {vn vc : Nat} {lk : List UInt8} (h : Gather w rb F o1 o2 ds va vn vc lk wr) :
    RepVl wr (fun b => w.heap.size ≤ b ∧ b < wr.heap.size) ds (.slice va vn vc) := by
  obtain ⟨xs, hown, hk⟩ := h.owns
  rcases owned_kids hown hk with h1 | ⟨b, c', hv, ho, hb, hlt, h3, h4, hx⟩
  · exact .inl ⟨h1.1, by rw [h1.2]; exact Bare.nil⟩
  · refine .inr ⟨b, 0, c', hv, ⟨by omega, hlt⟩, h3, h4, RepVs.of ds fun i hi => ?_⟩
    obtain ⟨u, ha, hu⟩ := hx i hi
    exact ⟨u, ha, hu.same (fun k h => ⟨by omega, h.2.1⟩) fun _ _ => rfl⟩

/-- What a gathering call hands back, its result laid into its second box. -/
theorem Gather.done {w wr : World} {rb : Nat} {F : Nat → Prop} {o1 o2 : Obj} {ds : List V} {va : Option Addr} {vn vc : Nat} {lk : List UInt8} (h : Gather w rb F o1 o2 ds va vn vc lk wr) (hrb : rb < w.heap.size)
    (hF : ∀ b, F b → b < w.heap.size ∧ b ≠ rb) (x y z : Value) :
    ReadPost w rb F (.ok (.mk 0 [] ds, lk)) (.returned (.tuple #[.agg #[.int .u64 0, .slice none 0 0, .slice va vn vc], .int .i64 0]))
      (((wr.setCell ⟨w.heap.size + 1, 0, none⟩ x).setCell ⟨w.heap.size + 1, 1, none⟩ y).setCell ⟨w.heap.size + 1, 2, none⟩ z) := by
  obtain ⟨v, hr, hv⟩ := h.left
  obtain ⟨xs, hown, hk⟩ := h.owns
  have hz2 := lt_of_heap h.box2
  refine ⟨_, v, rfl, gb_new _ (by omega) (gb_new _ (by omega) (gb_new _ (by omega) h.grown)), ?_, hv.same (fun _ h => h) fun b hb => ?_, RepV_mk.2 ⟨_, _, rfl, by omega, .inl ⟨rfl, Bare.nil⟩, ?_⟩⟩
  · exact old_set (old_set (old_set hr (by simp; omega)) (by simp; omega)) (by simp; omega)
  · have := (hF b hb).1
    simp (disch := (simp; omega)) only [Below.heap_setCell]
  · rcases owned_kids hown hk with h1 | ⟨b, c', hv, ho, hb, hlt, h3, h4, hx⟩
    · exact .inl ⟨h1.1, by rw [h1.2]; exact Bare.nil⟩
    · refine .inr ⟨b, 0, c', hv, ⟨by omega, by simp; omega⟩, h3, h4, RepVs.of ds fun i hi => ?_⟩
      obtain ⟨u, ha, hu⟩ := hx i hi
      refine ⟨u, ha.same ?_, hu.same (fun k h => ⟨by omega, by simp; omega⟩) fun k hk2 => ?_⟩
      · simp (disch := (simp; omega)) only [Below.heap_setCell]
      · have := hk2.1
        simp (disch := (simp; omega)) only [Below.heap_setCell]

set_option maxRecDepth 20000 in
set_option maxHeartbeats 3200000 in
theorem list_any {s : Sh} (ih : KindSaid 144 s) : KindSaid 180 (.list s) := by
  intro rb F G L v pu w hr hv hs hF hG hL hss
  have hss2 : ssize s ≤ 64 := by simp only [ssize] at hss; omega
  have HSS := Lib.hid hss2
  clear hss hss2
  unfold RepS at hs
  obtain ⟨pb, poff, pc, pu1, rfl, hpb, hpat, hpu1⟩ := hs
  obtain ⟨psa, psn, psc, rfl⟩ := hpu1.agg
  have hd := fun o1 o2 => digits_left rb F L _ w o1 o2 hr hv hF
  have hrb := lt_of_heap hr
  have hpbl := hG pb hpb
  have HD := Lib.hid hd
  have HF := Lib.hid hF
  have HG := Lib.hid hG
  have HPAT := Lib.hid hpat
  have HPU := Lib.hid hpu1
  have HIH := Lib.hid ih
  have hpb1 : pb < w.heap.size := hpbl.1
  have hpb2 : pb ≠ rb := hpbl.2
  clear hd hr hv hF hG hpat hpu1 ih hpbl
  obtain ⟨iv, hiv, hiv0, hiv1, hiv2⟩ := info_parts infoVal
  have HT : Hid (takeV (.list s) L = match takeNum L with
    | .error e => .error e
    | .ok (n, r) =>
      if solid s = true ∧ r.length < n then .error 11
      else if solid s = false ∧ 1048576 < n then .error 13
      else match takeMany (takeV s) n r with
        | .error e => .error e
        | .ok (l, r') => .ok (.mk 0 [] l, r')) := Lib.hid (by rw [takeV]; rfl)
  go_enter Tryz.func180, Tryz.ntmps180
  go_wp2_with fail
  refine (HD.out _ _).mono ?_
  intro e w1 hp
  obtain ⟨hg, hb1, hb2, hp⟩ := hp
  obtain ⟨c0, c1, c2, -, -, -, hz1⟩ := block3 hb1
  obtain ⟨d0, d1, d2, g0, g1, g2, hz⟩ := block3 hb2
  have HGB := Lib.hid hg
  cases hq : takeNum L with
  | error c =>
    rw [hq] at hp
    subst hp
    have HQ := Lib.hid hq
    have hc0 : (c != 0) = true := by rcases takeNum_error hq with rfl | rfl <;> rfl
    clear hq hg hb2 hb1
    go_wp2_with fail
    refine bodyPost_ret (v := .tuple #[.agg #[.int .u64 0, .slice none 0 0, .slice none 0 0], .int .i64 c]) (by simp [results, Tryz.results180, go_sem, d0, d1, d2, hz]) rfl ?_
    rw [HT.out, HQ.out]
    exact ⟨rfl, gb_new _ (by omega) (gb_new _ (by omega) (gb_new _ (by omega) HGB.out))⟩
  | ok x =>
    obtain ⟨n, r⟩ := x
    rw [hq] at hp
    obtain ⟨v1, rfl, hr1, hv1⟩ := hp
    have HQ := Lib.hid hq
    have HV1 := Lib.hid hv1
    have HR1 := Lib.hid hr1
    obtain ⟨a1, k1, rfl, hrl⟩ := hv1.slice
    obtain ⟨r0, -, hrb1⟩ := block1 hr1
    have hlt := (takeNum_ok hq).2
    have HN : Hid (n < 18446744073709551616) := Lib.hid (takeNum_ok hq).1
    have hpb3 : w1.heap[pb]? = w.heap[pb]? := hg.block pb hpb1 (by simpa using hpb2)
    obtain ⟨x, y, z, hxyz, p0, p1, p2⟩ := HPAT.out.same (w' := w1) hpb3
    cases hxyz
    have HB1 := Lib.hid hb1
    have HB2 := Lib.hid hb2
    clear hq hv1 hr1 hpb3 hg hb1 hb2
    have HT2 : Hid (takeV (.list s) L = if solid s = true ∧ r.length < n then .error 11 else if solid s = false ∧ 1048576 < n then .error 13
      else match takeMany (takeV s) n r with | .error e => .error e | .ok (l, r') => .ok (.mk 0 [] l, r')) := Lib.hid (by rw [HT.out, HQ.out])
    clear HT
    by_cases hA : solid s = true ∧ r.length < n
    · have hso := hA.1
      have hn2 : (r.length : Int) < (n : Int) := by have := hA.2; omega
      have HA := Lib.hid hA
      clear hA
      rw [hso] at p2
      have HSO := Lib.hid hso
      clear hso
      go_wp2_with fail
      refine bodyPost_ret (v := .tuple #[.agg #[.int .u64 0, .slice none 0 0, .slice none 0 0], .int .i64 11]) (by simp [results, Tryz.results180, go_sem, d0, d1, d2, hz]) rfl ?_
      rw [HT2.out]
      simp only [if_pos HA.out]
      exact ⟨rfl, gb_new _ (by omega) (gb_new _ (by omega) (gb_new _ (by omega) HGB.out))⟩
    by_cases hB : solid s = false ∧ 1048576 < n
    · have hso := hB.1
      have hn2 : (1048576 : Int) < (n : Int) := by have := hB.2; omega
      have HA := Lib.hid hA
      have HBB := Lib.hid hB
      clear hA hB
      rw [hso] at p2
      have HSO := Lib.hid hso
      clear hso
      go_wp2_with fail
      refine bodyPost_ret (v := .tuple #[.agg #[.int .u64 0, .slice none 0 0, .slice none 0 0], .int .i64 13]) (by simp [results, Tryz.results180, go_sem, d0, d1, d2, hz]) rfl ?_
      rw [HT2.out]
      simp only [if_neg HA.out, if_pos HBB.out]
      exact ⟨rfl, gb_new _ (by omega) (gb_new _ (by omega) (gb_new _ (by omega) HGB.out))⟩
    have hn40 : n ≤ 1099511627776 := by
      cases hso : solid s with
      | true => have : ¬ r.length < n := fun h => hA ⟨hso, h⟩
                omega
      | false => have : ¬ 1048576 < n := fun h => hB ⟨hso, h⟩
                 omega
    have HT3 : Hid (takeV (.list s) L = match takeMany (takeV s) n r with | .error e => .error e | .ok (l, r') => .ok (.mk 0 [] l, r')) := Lib.hid (by rw [HT2.out, if_neg hA, if_neg hB])
    have hgath : Gather w rb F (.cells #[.int .u8 42, .slice (some ⟨pb, poff, none⟩) 1 pc, .bool true] 188) (.cells #[.int .u64 0, .slice none 0 0, .slice none 0 0] 149) [] none 0 0 r w1 :=
      ⟨HGB.out, HB1.out, HB2.out, ⟨_, HR1.out, HV1.out⟩, [], World.ownsRow_nil _ _ _ _, rfl⟩
    have HGA := Lib.hid hgath
    clear hgath HT2
    have key : ∀ so, so = solid s → (so = true → ¬ (r.length : Int) < (n : Int)) ∧ (so = false → ¬ (1048576 : Int) < (n : Int)) := by
      rintro so rfl
      exact ⟨fun h h2 => hA ⟨h, by omega⟩, fun h h2 => hB ⟨h, by omega⟩⟩
    clear hA hB
    cases hso : solid s
    case' true =>
      have hn2 := (key true hso.symm).1 rfl
      have hn3 : decide (r.length < n) = false := decide_eq_false (by omega)
    case' false =>
      have hn2 := (key false hso.symm).2 rfl
      have hn3 := decide_eq_false hn2
    all_goals
      rw [hso] at p2
      have HSO := Lib.hid hso
      clear key hso
      go_wp2_with fail
      go_loopw [8, 48] (fun vs i wr => ∃ (k : Nat) (ds : List V) (va : Option Addr) (vn vc : Nat) (lk : List UInt8), vs = .slice va vn vc ∧ i = .int .u64 (k : Int) ∧ k ≤ n ∧ ds.length = k ∧ lk.length ≤ r.length ∧
          takeMany (takeV s) n r = catV ds (takeMany (takeV s) (n - k) lk) ∧
          Gather w rb F (.cells #[.int .u8 42, .slice (some ⟨pb, poff, none⟩) 1 pc, .bool true] 188) (.cells #[.int .u64 0, .slice none 0 0, .slice none 0 0] 149) ds va vn vc lk wr) (fun _ i _ => n - (intOf i).toNat)
      case atStart => exact ⟨0, [], none, 0, 0, r, rfl, rfl, by omega, rfl, Nat.le_refl _, catV_nil _, HGA.out⟩
      case round =>
        obtain ⟨k, ds, va, vn, vc, lk, rfl, rfl, hk, hds, hlk, hspec, hga⟩ := hrel
        have HSP := Lib.hid hspec
        have HGA2 := Lib.hid hga
        have HDS := Lib.hid hds
        have hb1 := hga.box1
        have hb2 := hga.box2
        have hgr := hga.grown
        obtain ⟨vl, hrl1, hvl1⟩ := hga.left
        obtain ⟨c0, c1, c2, -, -, -, hz1⟩ := block3 hb1
        obtain ⟨d0, d1, d2, g0, g1, g2, hz⟩ := block3 hb2
        by_cases hkn : k < n
        · have hpb3 : wr.heap[pb]? = w.heap[pb]? := hgr.block pb hpb1 (by simpa using hpb2)
          obtain ⟨x, y, z, hxyz, p0, p1, p2⟩ := HPAT.out.same (w' := wr) hpb3
          cases hxyz
          have HC := Lib.hid (HIH.out rb F G lk vl _ wr hrl1 hvl1 (HPU.out.same (fun _ h => h) fun b hb => hgr.block b (HG.out b hb).1 (by have := (HG.out b hb).2; simpa using this))
            (fun b hb => ⟨Nat.lt_of_lt_of_le (HF.out b hb).1 hgr.size, (HF.out b hb).2⟩) (fun b hb => ⟨Nat.lt_of_lt_of_le (HG.out b hb).1 hgr.size, (HG.out b hb).2⟩) (by omega) HSS.out)
          clear hspec hga hb1 hb2 hrl1 hvl1 hpb3 hds hgr
          go_wp2_with fail
          refine HC.out.mono ?_
          intro e w2 hp
          have hfair := fair_take s lk
          cases hq : takeV s lk with
          | error c =>
            rw [hq] at hp hfair
            obtain ⟨rfl, hg2⟩ := hp
            have hc0 : (c != 0) = true := by rcases hfair with rfl | rfl <;> rfl
            have HQ2 := Lib.hid hq
            have hb2 := (hg2.block _ hz (by simp; omega)).trans HGA2.out.box2
            obtain ⟨d0, d1, d2, g0, g1, g2, hz⟩ := block3 hb2
            have HG2 := Lib.hid hg2
            clear hq hg2 hb2 hfair
            go_wp2_with fail
            refine bodyPost_ret (v := .tuple #[.agg #[.int .u64 0, .slice none 0 0, .slice none 0 0], .int .i64 c]) (by simp [results, Tryz.results180, go_sem, d0, d1, d2, hz]) rfl ?_
            rw [HT3.out, HSP.out, show n - k = (n - k - 1) + 1 from by omega, catV_fails HQ2.out]
            exact ⟨rfl, gb_alloc _ (gb_new _ (by omega) (gb_new _ (by omega) (gb_new _ (by omega) (gb_trans HGA2.out.grown HG2.out))))⟩
          | ok x =>
            obtain ⟨d, l1⟩ := x
            rw [hq] at hp hfair
            obtain ⟨u, v2, rfl, hg2, hr2, hv2, hu⟩ := hp
            have hl1 : l1.length ≤ lk.length := hfair
            have hga3 := HGA2.out.next hrb hg2 hr2 hv2
            have HQ2 := Lib.hid hq
            have HU := Lib.hid hu
            obtain ⟨en, eab, enb, ecb, eal, enl, ecl, rfl⟩ := hu.form
            obtain ⟨xs, hown, hkids⟩ := hga3.owns
            have hown0 : ∀ j, (Value.slice va vn vc).ownBlock = some j → j < wr.heap.size := fun j hj => by
              obtain ⟨xs0, hown0, _⟩ := HGA2.out.owns
              exact (hown0.lt j hj).2
            have HO0 := Lib.hid hown0
            have HKI := Lib.hid hkids
            have HG3 := Lib.hid hga3
            have hzz := hg2.size
            rw [HDS.out] at hown
            have HG22 := Lib.hid hg2
            clear hq hg2 hfair hr2 hv2 hu hga3 hkids hown0
            go_wp2_with (at_builtin; refine wpList_append_own2 _ rfl (.tmp 63) (.tmp 65) 147 rfl (w.heap.size + 2) 149 iv (.agg #[.int .u64 0, .slice none 0 0, .slice none 0 0]) 3 56 Tryz.underlying147 hiv hiv0 hiv1 hiv2 rfl (by decide) _ _ _ rfl ((hown.alloc _).alloc _) ⟨w2.heap.size + 1, 0, none⟩ 1 1 [.int .u64 en, .slice eab enb ecb, .slice eal enl ecl] rfl rfl ?c1 ?c2 ?c3 ?c4 ?c5 ?_)
            case c1 => exact three_new (by simp)
            case c2 => intro u hu; simp at hu; rcases hu with rfl | rfl | rfl <;> rfl
            case c3 => unfold maxLen; omega
            case c4 => omega
            case c5 => simp; omega
            intro v' w4 hown2 hg4 _ hwhere
            obtain ⟨a', c', hv'⟩ := owned_slice hown2
            subst hv'
            have hga4 := HG3.out.push (o3 := .cells #[.int .u64 en, .slice eab enb ecb, .slice eal enl ecl] 149) (o4 := .cells #[.int .u64 en, .slice eab enb ecb, .slice eal enl ecl] 149) hrb HF.out HU.out (by omega) (by rw [HDS.out]; exact hown) HKI.out HO0.out hown2 (by rw [HDS.out]) hg4 (by simpa using hwhere)
            have HG4 := Lib.hid hga4
            have HLEN : Hid ((ds ++ [d]).length = k + 1) := Lib.hid (by rw [List.length_append, HDS.out]; rfl)
            clear hown hown2 hg4 hwhere hga4
            go_wp2_with fail
            go_roundw
            case rel =>
              have hr : ∃ (k_1 : Nat) (ds : List V) (va : Option Addr) (vn vc : Nat) (lk : List UInt8), Value.slice a' (k + 1) c' = .slice va vn vc ∧ Value.int .u64 ((k : Int) + 1) = .int .u64 (k_1 : Int) ∧ k_1 ≤ n ∧ ds.length = k_1 ∧ lk.length ≤ r.length ∧
                  takeMany (takeV s) n r = catV ds (takeMany (takeV s) (n - k_1) lk) ∧
                  Gather w rb F (.cells #[.int .u8 42, .slice (some ⟨pb, poff, none⟩) 1 pc, .bool true] 188) (.cells #[.int .u64 0, .slice none 0 0, .slice none 0 0] 149) ds va vn vc lk w4 :=
                ⟨k + 1, ds ++ [d], a', k + 1, c', l1, rfl, by go_num, by omega, HLEN.out, by omega, by rw [HSP.out, show n - k = (n - (k + 1)) + 1 from by omega, catV_step HQ2.out], HG4.out⟩
              first | exact hr | ((repeat apply Exists.intro); exact ⟨hr, rfl⟩)
            case measure => simp [intOf]; omega
        · have HK : Hid (n - k = 0) := Lib.hid (by omega)
          clear hspec hga hb1 hb2 hrl1 hvl1 hds hgr
          go_wp2_with fail
          refine bodyPost_ret (v := .tuple #[.agg #[.int .u64 0, .slice none 0 0, .slice va vn vc], .int .i64 0]) (by simp [results, Tryz.results180, go_sem, d0, d1, d2, hz]) rfl ?_
          rw [HT3.out, HSP.out, HK.out, catV_ends]
          exact HGA2.out.done hrb HF.out _ _ _
end Go.Proofs.YtgakcaobalfpjaaGreatDoor.M

/- Part: MouldTake6. -/
namespace Go.Proofs.YtgakcaobalfpjaaGreatDoor.M
open Go.RowKit

set_option maxRecDepth 20000 in
set_option maxHeartbeats 3200000 in
theorem row_any {l : List Sh} (ih : ∀ s ∈ l, KindSaid 144 s) : KindSaid 181 (.row l) := by
  intro rb F G L v pu w hr hv hs hF hG hL hss
  have hll := ssizes_length l
  have hlen : l.length ≤ 64 := by simp only [ssize] at hss; omega
  have HSS : Hid (∀ s ∈ l, ssize s ≤ 64) := Lib.hid fun s hs => by
    have := ssizes_mem l s hs
    simp only [ssize] at hss
    omega
  clear hss hll
  obtain ⟨pa, pc, rfl, hps⟩ := hs.row
  have hrb := lt_of_heap hr
  obtain ⟨iv, hiv, hiv0, hiv1, hiv2⟩ := info_parts infoVal
  have hgath : Gather w rb F (.cells #[.int .u8 91, .slice pa l.length pc, .bool (solids l)] 188) (.cells #[.int .u64 0, .slice none 0 0, .slice none 0 0] 149) [] none 0 0 L
      ((w.alloc (.cells #[.int .u8 91, .slice pa l.length pc, .bool (solids l)] 188)).alloc (.cells #[.int .u64 0, .slice none 0 0, .slice none 0 0] 149)) :=
    ⟨gb_alloc _ (gb_alloc _ (gb_refl _ _)), old_alloc (heap_new _ _ _ rfl), heap_new _ _ _ (by simp), ⟨v, (boxes2 _ _ hr hv hF).1, (boxes2 _ _ hr hv hF).2⟩, [], World.ownsRow_nil _ _ _ _, rfl⟩
  have HT3 : Hid (takeV (.row l) L = match takeVs l L with | .error e => .error e | .ok (l, r') => .ok (.mk 0 [] l, r')) := Lib.hid (by rw [takeV]; rfl)
  have HGA := Lib.hid hgath
  have HF := Lib.hid hF
  have HG := Lib.hid hG
  have HP := Lib.hid hps
  have HIH := Lib.hid ih
  clear hr hv hF hG hs hps ih hgath
  go_enter Tryz.func181, Tryz.ntmps181
  go_wp2_with fail
  go_loopw [6, 14] (fun vs i wr => ∃ (k : Nat) (ds : List V) (va : Option Addr) (vn vc : Nat) (lk : List UInt8), vs = .slice va vn vc ∧ i = .int .i64 (k : Int) ∧ k ≤ l.length ∧ ds.length = k ∧ lk.length ≤ L.length ∧
      takeVs l L = catV ds (takeVs (l.drop k) lk) ∧
      Gather w rb F (.cells #[.int .u8 91, .slice pa l.length pc, .bool (solids l)] 188) (.cells #[.int .u64 0, .slice none 0 0, .slice none 0 0] 149) ds va vn vc lk wr) (fun _ i _ => l.length - (intOf i).toNat)
  case atStart => exact ⟨0, [], none, 0, 0, L, rfl, rfl, by omega, rfl, Nat.le_refl _, catV_nil _, HGA.out⟩
  case round =>
    obtain ⟨k, ds, va, vn, vc, lk, rfl, rfl, hk, hds, hlk, hspec, hga⟩ := hrel
    have HSP := Lib.hid hspec
    have HGA2 := Lib.hid hga
    have HDS := Lib.hid hds
    have hb1 := hga.box1
    have hb2 := hga.box2
    have hgr := hga.grown
    obtain ⟨vl, hrl1, hvl1⟩ := hga.left
    obtain ⟨c0, c1, c2, -, -, -, hz1⟩ := block3 hb1
    obtain ⟨d0, d1, d2, g0, g1, g2, hz⟩ := block3 hb2
    by_cases hkn : k < l.length
    · obtain ⟨pb, poff, rfl, hFp, pu, hpat, hpu⟩ := HP.out k hkn
      obtain ⟨psa, psn, psc, rfl⟩ := hpu.agg
      have hpb3 : wr.heap[pb]? = w.heap[pb]? := hgr.block pb (HG.out pb hFp).1 (by have := (HG.out pb hFp).2; simpa using this)
      obtain ⟨x, y, z, hxyz, p0, p1, p2⟩ := hpat.same (w' := wr) hpb3
      cases hxyz
      have hrbz := lt_of_heap hrl1
      have HDR : Hid (l.drop k = l[k] :: l.drop (k + 1)) := Lib.hid (List.drop_eq_getElem_cons hkn)
      have HC := Lib.hid (fun o => HIH.out l[k] (List.getElem_mem hkn) rb F G lk vl _ (wr.alloc o) (old_alloc hrl1) (hvl1.same (fun _ h => h) fun b hb => Below.heap_alloc _ _ _ (Nat.lt_of_lt_of_le (HF.out b hb).1 hgr.size))
        (hpu.same (fun _ h => h) fun b hb => by rw [Below.heap_alloc _ _ _ (Nat.lt_of_lt_of_le (HG.out b hb).1 hgr.size)]; exact hgr.block b (HG.out b hb).1 (by have := (HG.out b hb).2; simpa using this))
        (fun b hb => ⟨by have := Nat.lt_of_lt_of_le (HF.out b hb).1 hgr.size; simp; omega, (HF.out b hb).2⟩) (fun b hb => ⟨by have := Nat.lt_of_lt_of_le (HG.out b hb).1 hgr.size; simp; omega, (HG.out b hb).2⟩) (by omega) (HSS.out _ (List.getElem_mem hkn)))
      have HVL1 : Hid (RepB wr F lk vl) := Lib.hid hvl1
      have HRL1 : Hid (ReadAt wr rb vl) := Lib.hid hrl1
      have hgrz := hgr.size
      clear hspec hga hb1 hb2 hrl1 hvl1 hpb3 hds hgr hpat hpu
      go_wp2_with fail
      refine (HC.out _).mono ?_
      intro e w2 hp
      have hfair := fair_take l[k] lk
      cases hq : takeV l[k] lk with
      | error c =>
        rw [hq] at hp hfair
        obtain ⟨rfl, hg2⟩ := hp
        have hc0 : (c != 0) = true := by rcases hfair with rfl | rfl <;> rfl
        have HQ2 := Lib.hid hq
        have hg3 := gb_trans (gb_alloc _ (gb_refl wr _)) hg2
        have hb2 := (hg3.block _ hz (by simp; omega)).trans HGA2.out.box2
        obtain ⟨d0, d1, d2, g0, g1, g2, hz⟩ := block3 hb2
        have HG2 := Lib.hid hg3
        clear hq hg2 hg3 hb2 hfair
        go_wp2_with fail
        refine bodyPost_ret (v := .tuple #[.agg #[.int .u64 0, .slice none 0 0, .slice none 0 0], .int .i64 c]) (by simp [results, Tryz.results181, go_sem, d0, d1, d2, hz]) rfl ?_
        rw [HT3.out, HSP.out, HDR.out, catR_fails HQ2.out]
        exact ⟨rfl, gb_alloc _ (gb_new _ (by omega) (gb_new _ (by omega) (gb_new _ (by omega) (gb_trans HGA2.out.grown HG2.out))))⟩
      | ok x =>
        obtain ⟨d, l1⟩ := x
        rw [hq] at hp hfair
        obtain ⟨u, v2, rfl, hg2, hr2, hv2, hu⟩ := hp
        have hl1 : l1.length ≤ lk.length := hfair
        have hg3 := gb_trans (gb_alloc _ (gb_refl wr _)) hg2
        have hga3 := HGA2.out.next hrb hg3 hr2 hv2
        have HQ2 := Lib.hid hq
        have HU := Lib.hid hu
        obtain ⟨en, eab, enb, ecb, eal, enl, ecl, rfl⟩ := hu.form
        obtain ⟨xs, hown, hkids⟩ := hga3.owns
        have hown0 : ∀ j, (Value.slice va vn vc).ownBlock = some j → j < wr.heap.size + 1 := fun j hj => by
          obtain ⟨xs0, hown0, _⟩ := HGA2.out.owns
          have := (hown0.lt j hj).2
          omega
        have HO0 := Lib.hid hown0
        have HKI := Lib.hid hkids
        have HG3 := Lib.hid hga3
        have hzz := hg3.size
        rw [HDS.out] at hown
        clear hq hg2 hg3 hfair hr2 hv2 hu hga3 hkids hown0
        go_wp2_with (at_builtin; refine wpList_append_own2 _ rfl (.tmp 28) (.tmp 30) 147 rfl (w.heap.size + 2) 149 iv (.agg #[.int .u64 0, .slice none 0 0, .slice none 0 0]) 3 56 Tryz.underlying147 hiv hiv0 hiv1 hiv2 rfl (by decide) _ _ _ rfl ((hown.alloc _).alloc _) ⟨w2.heap.size + 1, 0, none⟩ 1 1 [.int .u64 en, .slice eab enb ecb, .slice eal enl ecl] rfl rfl ?c1 ?c2 ?c3 ?c4 ?c5 ?_)
        case c1 => exact three_new (by simp)
        case c2 => intro u hu; simp at hu; rcases hu with rfl | rfl | rfl <;> rfl
        case c3 => unfold maxLen; omega
        case c4 => omega
        case c5 => simp; omega
        intro v' w4 hown2 hg4 _ hwhere
        obtain ⟨a', c', hv'⟩ := owned_slice hown2
        subst hv'
        have hga4 := HG3.out.push (o3 := .cells #[.int .u64 en, .slice eab enb ecb, .slice eal enl ecl] 149) (o4 := .cells #[.int .u64 en, .slice eab enb ecb, .slice eal enl ecl] 149) hrb HF.out HU.out (by simp; omega) (by rw [HDS.out]; exact hown) HKI.out (by simpa using HO0.out) hown2 (by rw [HDS.out]) hg4 (by simpa using hwhere)
        have HG4 := Lib.hid hga4
        have HLEN : Hid ((ds ++ [d]).length = k + 1) := Lib.hid (by rw [List.length_append, HDS.out]; rfl)
        clear hown hown2 hg4 hwhere hga4
        go_wp2_with fail
        go_roundw
        case rel =>
          refine ⟨k + 1, ds ++ [d], a', k + 1, c', l1, rfl, by go_num, by omega, HLEN.out, by omega, ?_, HG4.out⟩
          rw [HSP.out, HDR.out, catR_step HQ2.out]
        case measure => simp [intOf]; omega
    · have HK : Hid (l.drop k = []) := Lib.hid (List.drop_of_length_le (by omega))
      clear hspec hga hb1 hb2 hrl1 hvl1 hds hgr
      go_wp2_with fail
      refine bodyPost_ret (v := .tuple #[.agg #[.int .u64 0, .slice none 0 0, .slice va vn vc], .int .i64 0]) (by simp [results, Tryz.results181, go_sem, d0, d1, d2]) rfl ?_
      rw [HT3.out, HSP.out, HK.out, catR_ends]
      exact HGA2.out.done hrb HF.out _ _ _

mutual
theorem value_any : ∀ s, KindSaid 144 s
  | .num => value_of number_any
  | .blob => value_of blob_any
  | .list s => value_of (list_any (value_any s))
  | .row l => value_of (row_any (values_any l))
theorem values_any : ∀ (l : List Sh), ∀ s ∈ l, KindSaid 144 s
  | [], s, h => by simp at h
  | t :: l, s, h => by
    rcases List.mem_cons.1 h with h | h
    · rw [h]; exact value_any t
    · exact values_any l s h
end
end Go.Proofs.YtgakcaobalfpjaaGreatDoor.M

/- Part: MouldTake. -/
namespace Go.Proofs.YtgakcaobalfpjaaGreatDoor.M
open Go.RowKit

/-- What Take answers: an error's number, or the value. -/
def takeAt (s : List UInt8) (L : List UInt8) : Except Int V :=
  match shape s with
  | none => .error 10
  | some sh => match takeV sh L with
    | .error c => .error c
    | .ok (d, l) => if l.isEmpty then .ok d else .error 12

def TakePost (w : World) (r : Except Int V) (e : Ending) (w' : World) : Prop :=
  Below w.heap.size w w' ∧ match r with
  | .error c => e = .returned (.tuple #[.agg #[.int .u64 0, .slice none 0 0, .slice none 0 0], .int .i64 c])
  | .ok d => ∃ u, e = .returned (.tuple #[u, .int .i64 0]) ∧ RepV w' (fun b => w.heap.size ≤ b ∧ b < w'.heap.size) d u

theorem below_of_grown {w w0 w1 : World} {rb : Nat} (h0 : Below w.heap.size w w0) (hg : w0.grownBy w1 (some rb)) (hrb : w.heap.size ≤ rb) : Below w.heap.size w w1 :=
  ⟨hg.os.trans h0.os, hg.tape.trans h0.tape, hg.output.trans h0.output, Nat.le_trans h0.size hg.size, fun k hk => (hg.block k (Nat.lt_of_lt_of_le hk h0.size) (by simp; omega)).trans (h0.block k hk)⟩

set_option maxRecDepth 20000 in
set_option maxHeartbeats 1600000 in
theorem Take_any (s : ByteArray) (L : List UInt8) (F : Nat → Prop) (v : Value) (w : World) (hs : s.size ≤ 9223372036854775807) (hv : RepB w F L v) (hF : ∀ b, F b → b < w.heap.size) (hL : L.length ≤ 1099511627776) :
    Calls Tryz.prog 116 #[.string s, v] w (TakePost w (takeAt s.data.toList L)) := by
  have HV := Lib.hid hv
  have HF := Lib.hid hF
  obtain ⟨va, vc, rfl, _⟩ := hv.slice
  clear hv hF
  go_enter Tryz.func116, Tryz.ntmps116
  go_wp2_with fail
  refine (parse_any s _ hs).mono ?_
  rintro e w1 ⟨hb, hr⟩
  obtain ⟨c0, c1, c2, f0, f1, f2, hz⟩ := three_kept hb
  have hbox := old_below (heap_new w (.cells #[.int .u64 0, .slice none 0 0, .slice none 0 0] 149) _ rfl) hb
  have hB1 : Below w.heap.size w w1 := (below_alloc _ _).trans (hb.mono (by simp))
  have HBOX := Lib.hid hbox
  have HB1 := Lib.hid hB1
  have hsz := hb.size
  simp only [World.size_alloc] at hsz
  cases hq : shape s.data.toList with
  | none =>
    rw [hq] at hr
    subst hr
    have HQ : Hid (takeAt s.data.toList L = .error 10) := Lib.hid (by unfold takeAt; rw [hq])
    clear hq hb hbox hB1
    go_wp2_with fail
    refine bodyPost_ret (v := .tuple #[.agg #[.int .u64 0, .slice none 0 0, .slice none 0 0], .int .i64 10]) (by simp [results, Tryz.results116, go_sem, c0, c1, c2, hz]) rfl ?_
    rw [HQ.out]
    exact ⟨(((HB1.out.setCell (by simp) _).setCell (by simp) _).setCell (by simp) _).alloc (by simp; omega) _, rfl⟩
  | some sh =>
    rw [hq] at hr
    obtain ⟨u, rfl, hu⟩ := hr
    have HQ : Hid (takeAt s.data.toList L = match takeV sh L with | .error c => .error c | .ok (d, l) => if l.isEmpty then .ok d else .error 12) := Lib.hid (by unfold takeAt; rw [hq])
    have HSZ := Lib.hid (shape_size hq)
    obtain ⟨pa, pn, pc, rfl⟩ := hu.agg
    have hcall : ∀ o, Calls Tryz.prog 144 #[.pointer (some ⟨w1.heap.size + 1, 0, none⟩), .agg #[.int .u8 (kind sh), .slice pa pn pc, .bool (solid sh)]]
        ((w1.alloc o).alloc (.cells #[.slice va L.length vc] 208)) (ReadPost ((w1.alloc o).alloc (.cells #[.slice va L.length vc] 208)) (w1.heap.size + 1) F (takeV sh L)) := fun o =>
      value_any sh (w1.heap.size + 1) F (fun b => w.heap.size + 1 ≤ b ∧ b < w1.heap.size) L _ _ _ (heap_new _ _ _ (by simp))
        (HV.out.same (fun _ h => h) fun b hb2 => by
          have := HF.out b hb2
          rw [Below.heap_alloc _ _ _ (by simp; omega), Below.heap_alloc _ _ _ (by omega)]
          exact hB1.block b this)
        (hu.same (fun b hb2 => by simpa using hb2) fun b hb2 => by
          simp at hb2
          rw [Below.heap_alloc _ _ _ (by simp; omega), Below.heap_alloc _ _ _ hb2.2])
        (fun b hb2 => by have := HF.out b hb2; simp; omega) (fun b hb2 => by simp; omega) hL HSZ.out
    have HC := Lib.hid hcall
    clear hq hb hbox hB1 hu hcall
    go_wp2_with fail
    refine (HC.out _).mono ?_
    intro e w2 hp
    obtain ⟨n, ab, nb, cb, al, nl, cl, c, he, hg⟩ := hp.form
    have hB2 : Below w.heap.size w w2 := below_of_grown ((HB1.out.alloc (by omega) _).alloc (by simp; omega) _) hg (by omega)
    have hbox2 : w2.heap[w.heap.size]? = _ := (hg.block w.heap.size (by simp; omega) (by simp; omega)).trans (old_alloc (old_alloc HBOX.out))
    obtain ⟨c0, c1, c2, f0, f1, f2, hz⟩ := block3 hbox2
    have hgz := hg.size
    simp only [World.size_alloc] at hgz
    have HB2 := Lib.hid hB2
    have hfair := fair_take sh L
    cases hq2 : takeV sh L with
    | error c =>
      rw [hq2] at hp hfair
      obtain ⟨rfl, hg2⟩ := hp
      have hc0 : (c != 0) = true := by rcases hfair with rfl | rfl <;> rfl
      have HQ2 := Lib.hid hq2
      clear hq2 hg hg2 hB2 hbox2 hfair he
      go_wp2_with fail
      refine bodyPost_ret (v := .tuple #[.agg #[.int .u64 0, .slice none 0 0, .slice none 0 0], .int .i64 c]) (by simp [results, Tryz.results116, go_sem, c0, c1, c2, hz]) rfl ?_
      rw [HQ.out, HQ2.out]
      exact ⟨(((HB2.out.setCell (by simp) _).setCell (by simp) _).setCell (by simp) _).alloc (by simp; omega) _, rfl⟩
    | ok x =>
      obtain ⟨d, l1⟩ := x
      rw [hq2] at hp
      obtain ⟨u, v2, rfl, hg2, hr2, hv2, hu⟩ := hp
      obtain ⟨en, eab, enb, ecb, eal, enl, ecl, rfl⟩ := hu.form
      obtain ⟨la, lc, rfl, hll⟩ := hv2.slice
      obtain ⟨r0, -, hrz⟩ := block1 hr2
      have HQ2 := Lib.hid hq2
      have HU := Lib.hid hu
      clear hq2 hg hg2 hB2 hbox2 hfair he hu hv2 hr2
      cases l1 with
      | nil =>
        simp only [List.length_nil] at r0
        go_wp2_with fail
        refine bodyPost_ret (v := .tuple #[.agg #[.int .u64 en, .slice eab enb ecb, .slice eal enl ecl], .int .i64 0]) (by simp [results, Tryz.results116, go_sem, c0, c1, c2, hz]) rfl ?_
        rw [HQ.out, HQ2.out]
        refine ⟨(((HB2.out.setCell (by simp) _).setCell (by simp) _).setCell (by simp) _).alloc (by simp; omega) _, _, rfl, HU.out.same (fun b hb2 => ?_) fun b hb2 => ?_⟩
        · simp at hb2 ⊢; omega
        · simp only [World.size_alloc] at hb2
          rw [Below.heap_alloc _ _ _ (by simp; omega)]
          simp (disch := (simp; omega)) only [Below.heap_setCell]
      | cons x l2 =>
        simp only [List.length_cons] at r0 hll
        go_wp2_with fail
        refine bodyPost_ret (v := .tuple #[.agg #[.int .u64 0, .slice none 0 0, .slice none 0 0], .int .i64 12]) (by simp [results, Tryz.results116, go_sem, c0, c1, c2, hz]) rfl ?_
        rw [HQ.out, HQ2.out]
        exact ⟨(((HB2.out.setCell (by simp) _).setCell (by simp) _).setCell (by simp) _).alloc (by simp; omega) _, rfl⟩
end Go.Proofs.YtgakcaobalfpjaaGreatDoor.M

/- Part: MouldPure. -/
namespace Go.Proofs.YtgakcaobalfpjaaGreatDoor.M
open Go.RowKit

theorem fold_dig : ∀ (k n : Nat), n < 256 ^ k → fold256 (dig k n) = n
  | 0, n, h => by
    obtain rfl : n = 0 := by simpa using h
    rfl
  | k + 1, n, h => by
    rw [dig]
    by_cases h0 : n = 0
    · rw [if_pos h0, h0]; rfl
    · rw [if_neg h0, fold256_snoc, fold_dig k (n / 256) (by rw [Nat.div_lt_iff_lt_mul (by omega), ← Nat.pow_succ]; exact h), UInt8.toNat_ofNat_of_lt' (by show _ < 256; omega)]
      omega

theorem dig_head : ∀ (k n : Nat), n < 256 ^ k → (dig k n).head? ≠ some 0
  | 0, n, h => by simp [dig]
  | k + 1, n, h => by
    rw [dig]
    by_cases h0 : n = 0
    · rw [if_pos h0]; simp
    · rw [if_neg h0]
      by_cases h1 : n / 256 = 0
      · rw [h1, dig_zero']
        simp only [List.nil_append, List.head?_cons, ne_eq, Option.some.injEq]
        intro h2
        have := congrArg UInt8.toNat h2
        rw [UInt8.toNat_ofNat_of_lt' (by show _ < 256; omega)] at this
        simp at this
        omega
      · have h2 := dig_head k (n / 256) (by rw [Nat.div_lt_iff_lt_mul (by omega), ← Nat.pow_succ]; exact h)
        have h3 : dig k (n / 256) ≠ [] := by
          cases k with
          | zero => simp at h; omega
          | succ k => rw [dig, if_neg h1]; simp
        cases hd : dig k (n / 256) with
        | nil => exact absurd hd h3
        | cons c t => rw [hd] at h2; simpa using h2
where
  dig_zero' {k : Nat} : dig k 0 = [] := by cases k <;> simp [dig]

theorem num_len8 (n : Nat) : (UInt8.ofNat (dig 8 n).length).toNat = (dig 8 n).length := by
  have := dig_fuel 8 n
  exact UInt8.toNat_ofNat_of_lt' (by show _ < 256; omega)

/-- A number's form is read back. -/
theorem take_num (n : Nat) (r : List UInt8) (h : n < 18446744073709551616) : takeNum (num n ++ r) = .ok (n, r) := by
  have h8 := dig_fuel 8 n
  have hl := num_len8 n
  have hh := dig_head 8 n (by omega)
  have hf := fold_dig 8 n (by omega)
  rw [num, List.cons_append, takeNum, hl, if_neg (by omega)]
  rw [if_neg, if_neg (by simp), List.take_left, List.drop_left]
  · exact congrArg (fun x => Except.ok (x, r)) hf
  · rintro ⟨h0, h1⟩
    cases hd : dig 8 n with
    | nil => rw [hd] at h0; simp at h0
    | cons c t => rw [hd] at h1 hh; simp at h1 hh; exact hh h1

theorem put_num (n : Nat) : putAll [110] [.mk n [] []] = .ok (num n) := by
  unfold putAll
  rw [show shape [110] = some .num from by kernel_rfl]
  simp [isV, putV, V.n]

theorem takeAt_num (n : Nat) (h : n < 18446744073709551616) : takeAt [110] (num n) = .ok (.mk n [] []) := by
  unfold takeAt
  rw [show shape [110] = some .num from by kernel_rfl]
  have := take_num n [] h
  rw [List.append_nil] at this
  simp [takeV, this]

theorem takeAt_long (n : Nat) : takeAt [110] ([UInt8.ofNat ((dig 8 n).length + 1), 0] ++ dig 8 n) = .error 13 := by
  have h8 := dig_fuel 8 n
  unfold takeAt
  rw [show shape [110] = some .num from by kernel_rfl]
  have hl : (UInt8.ofNat ((dig 8 n).length + 1)).toNat = (dig 8 n).length + 1 := UInt8.toNat_ofNat_of_lt' (by show _ < 256; omega)
  have : takeNum ([UInt8.ofNat ((dig 8 n).length + 1), 0] ++ dig 8 n) = .error 13 := by
    rw [List.cons_append, takeNum, hl]
    split
    · rfl
    · rw [if_pos ⟨by omega, by simp⟩]
  simp only [takeV, this]

theorem blen_mono {a b : Nat} (h : a ≤ b) : blen a ≤ blen b := by
  rw [blen_le]
  have := (blen_le b (blen b)).1 (Nat.le_refl _)
  omega

theorem num_longer {a b : Nat} (ha : a < 18446744073709551616) (hb : b < 18446744073709551616) (h : (num a).length < (num b).length) : a < b := by
  rcases Nat.lt_or_ge a b with h1 | h1
  · exact h1
  · have := blen_mono h1
    simp only [num, List.length_cons, dig_length 8 a (by omega), dig_length 8 b (by omega)] at h
    omega
end Go.Proofs.YtgakcaobalfpjaaGreatDoor.M

/- Part: SumPure. -/
namespace Go.Proofs.YtgakcaobalfpjaaGreatDoor.C

/-- The polynomial, as the document's register has it. -/
def poly : Nat := 2197175160

/-- One bit's step of the register. -/
def rnd (r : Nat) : Nat := if r % 2 = 1 then (r / 2) ^^^ poly else r / 2

def rnds : Nat → Nat → Nat
  | 0, r => r
  | k + 1, r => rnds k (rnd r)

/-- The register led on by a byte. -/
def step (r : Nat) (c : UInt8) : Nat := rnds 8 (r ^^^ c.toNat)

def lead (r : Nat) (l : List UInt8) : Nat := l.foldl step r

def ones : Nat := 4294967295

/-- The sum of bytes. -/
def sumOf (l : List UInt8) : Nat := lead ones l ^^^ ones

/-- A register led on by so many noughts. -/
def zeros : Nat → Nat → Nat
  | 0, r => r
  | k + 1, r => zeros k (rnds 8 r)

theorem xor_div2 (a b : Nat) : (a ^^^ b) / 2 = a / 2 ^^^ b / 2 := by
  apply Nat.eq_of_testBit_eq
  intro i
  simp only [Nat.testBit_div_two, Nat.testBit_xor]

theorem xor_mod2 (a b : Nat) : (a ^^^ b) % 2 = (a % 2 + b % 2) % 2 := by
  have h := Nat.testBit_xor a b 0
  simp only [Nat.testBit_zero] at h
  have ha := Nat.mod_two_eq_zero_or_one a
  have hb := Nat.mod_two_eq_zero_or_one b
  have hc := Nat.mod_two_eq_zero_or_one (a ^^^ b)
  rcases ha with ha | ha <;> rcases hb with hb | hb <;> rcases hc with hc | hc <;> simp [ha, hb, hc] at h ⊢

theorem xor_swap (a b c d : Nat) : (a ^^^ b) ^^^ (c ^^^ d) = (a ^^^ c) ^^^ (b ^^^ d) := by
  rw [Nat.xor_assoc, Nat.xor_assoc, ← Nat.xor_assoc b c d, Nat.xor_comm b c, Nat.xor_assoc c b d]

theorem rnd_xor (a b : Nat) : rnd (a ^^^ b) = rnd a ^^^ rnd b := by
  unfold rnd
  rw [xor_mod2, xor_div2]
  rcases Nat.mod_two_eq_zero_or_one a with ha | ha <;> rcases Nat.mod_two_eq_zero_or_one b with hb | hb <;> simp only [ha, hb]
  · rfl
  · simp [Nat.xor_assoc]
  · simp [Nat.xor_assoc]; rw [Nat.xor_comm poly]
  · simp
    rw [xor_swap, Nat.xor_self, Nat.xor_zero]

theorem rnd_zero : rnd 0 = 0 := rfl

theorem rnd_lt {r : Nat} (h : r < 4294967296) : rnd r < 4294967296 := by
  unfold rnd
  split
  · have : r / 2 < 2 ^ 32 := by omega
    exact Nat.xor_lt_two_pow this (by decide)
  · omega

theorem rnd_eq_zero {r : Nat} (h : r < 4294967296) (h0 : rnd r = 0) : r = 0 := by
  unfold rnd at h0
  split at h0
  · have h1 : r / 2 = poly := by
      have := congrArg (· ^^^ poly) h0
      simpa [Nat.xor_assoc] using this
    unfold poly at h1
    omega
  · omega

theorem rnds_xor : ∀ (k a b : Nat), rnds k (a ^^^ b) = rnds k a ^^^ rnds k b
  | 0, _, _ => rfl
  | k + 1, a, b => by rw [rnds, rnd_xor, rnds_xor k]; rfl

theorem rnds_zero : ∀ k, rnds k 0 = 0
  | 0 => rfl
  | k + 1 => by rw [rnds, rnd_zero, rnds_zero k]

theorem rnds_lt : ∀ (k : Nat) {r : Nat}, r < 4294967296 → rnds k r < 4294967296
  | 0, _, h => h
  | k + 1, _, h => rnds_lt k (rnd_lt h)

theorem rnds_eq_zero : ∀ (k : Nat) {r : Nat}, r < 4294967296 → rnds k r = 0 → r = 0
  | 0, _, _, h => h
  | k + 1, _, hr, h => rnd_eq_zero hr (rnds_eq_zero k (rnd_lt hr) h)

theorem rnds_add (j : Nat) : ∀ (k r : Nat), rnds (k + j) r = rnds j (rnds k r)
  | 0, r => by rw [Nat.zero_add]; rfl
  | k + 1, r => by rw [Nat.add_right_comm]; exact rnds_add j k (rnd r)

theorem byte_lt (c : UInt8) : c.toNat < 4294967296 := Nat.lt_trans c.toNat_lt (by decide)

theorem step_lt {r : Nat} (c : UInt8) (h : r < 4294967296) : step r c < 4294967296 := by
  unfold step
  exact rnds_lt 8 (Nat.xor_lt_two_pow (n := 32) h (byte_lt c))

theorem lead_lt : ∀ (l : List UInt8) {r : Nat}, r < 4294967296 → lead r l < 4294967296
  | [], _, h => h
  | c :: l, _, h => lead_lt l (step_lt c h)

theorem lead_append (r : Nat) (a b : List UInt8) : lead r (a ++ b) = lead (lead r a) b := by simp [lead]

theorem sumOf_lt (l : List UInt8) : sumOf l < 4294967296 := Nat.xor_lt_two_pow (n := 32) (lead_lt l (by decide)) (by decide)

theorem lead_sum (l : List UInt8) : lead ones l = sumOf l ^^^ ones := by
  unfold sumOf
  rw [Nat.xor_assoc, Nat.xor_self, Nat.xor_zero]

/-- A register that differs is led on by the difference, as by noughts. -/
theorem lead_xor : ∀ (l : List UInt8) (a b : Nat), lead (a ^^^ b) l = zeros l.length a ^^^ lead b l
  | [], _, _ => rfl
  | c :: l, a, b => by
    show lead (step (a ^^^ b) c) l = _
    have e : step (a ^^^ b) c = rnds 8 a ^^^ step b c := by
      unfold step
      rw [Nat.xor_assoc, rnds_xor]
    rw [e, lead_xor l]
    rfl

theorem zeros_zero : ∀ k, zeros k 0 = 0
  | 0 => rfl
  | k + 1 => by rw [zeros, rnds_zero, zeros_zero k]

theorem zeros_eq_zero : ∀ (k : Nat) {r : Nat}, r < 4294967296 → zeros k r = 0 → r = 0
  | 0, _, _, h => h
  | k + 1, _, hr, h => rnds_eq_zero 8 hr (zeros_eq_zero k (rnds_lt 8 hr) h)

theorem zeros_lt : ∀ (k : Nat) {r : Nat}, r < 4294967296 → zeros k r < 4294967296
  | 0, _, h => h
  | k + 1, _, h => zeros_lt k (rnds_lt 8 h)

theorem zeros_add : ∀ (j k r : Nat), zeros (j + k) r = zeros k (zeros j r)
  | 0, k, r => by rw [Nat.zero_add]; rfl
  | j + 1, k, r => by rw [Nat.add_right_comm]; exact zeros_add j k (rnds 8 r)

/-- The sums of two pieces, joined. -/
theorem sum_join (a b : List UInt8) : sumOf (a ++ b) = zeros b.length (sumOf a) ^^^ sumOf b := by
  conv => lhs; unfold sumOf
  rw [lead_append, lead_sum a, lead_xor b, Nat.xor_assoc]
  rfl

/-- Two registers, led on by the same bytes, stay apart. -/
theorem lead_inj (l : List UInt8) {a b : Nat} (ha : a < 4294967296) (hb : b < 4294967296) (h : lead a l = lead b l) : a = b := by
  have h1 : lead ((a ^^^ b) ^^^ b) l = zeros l.length (a ^^^ b) ^^^ lead b l := lead_xor l _ _
  rw [Nat.xor_assoc, Nat.xor_self, Nat.xor_zero, h] at h1
  have h2 : zeros l.length (a ^^^ b) = 0 := by
    have := congrArg (· ^^^ lead b l) h1
    simp only [Nat.xor_self, Nat.xor_assoc, Nat.xor_zero] at this
    exact this.symm
  have h3 := zeros_eq_zero _ (Nat.xor_lt_two_pow (n := 32) ha hb) h2
  have := congrArg (· ^^^ b) h3
  simpa [Nat.xor_assoc] using this

/-- Bytes as one number, the first one lowest. -/
def num : List UInt8 → Nat
  | [] => 0
  | c :: l => c.toNat + 256 * num l

theorem low_high (c M : Nat) (h : c < 256) : c + 256 * M = c ^^^ (256 * M) := by
  have := Nat.two_pow_add_eq_or_of_lt (i := 8) h M
  rw [Nat.add_comm, this]
  apply Nat.eq_of_testBit_eq
  intro i
  rw [Nat.testBit_or, Nat.testBit_xor, Nat.testBit_two_pow_mul]
  by_cases hi : 8 ≤ i
  · rw [Nat.testBit_lt_two_pow (Nat.lt_of_lt_of_le h (show 2 ^ 8 ≤ 2 ^ i from Nat.pow_le_pow_right (by omega) hi))]
    simp
  · simp [hi]

theorem low_high' (c M : Nat) (h : c < 16) : c + 16 * M = c ^^^ (2 ^ 4 * M) := by
  have := Nat.two_pow_add_eq_or_of_lt (i := 4) h M
  rw [show c + 16 * M = 2 ^ 4 * M + c from by omega, this]
  apply Nat.eq_of_testBit_eq
  intro i
  rw [Nat.testBit_or, Nat.testBit_xor, Nat.testBit_two_pow_mul]
  by_cases hi : 4 ≤ i
  · rw [Nat.testBit_lt_two_pow (Nat.lt_of_lt_of_le h (show 2 ^ 4 ≤ 2 ^ i from Nat.pow_le_pow_right (by omega) hi))]
    simp
  · simp [hi]

theorem rnds_shift : ∀ (k M : Nat), rnds k (2 ^ k * M) = M
  | 0, M => by simp [rnds]
  | k + 1, M => by
    have e : 2 ^ (k + 1) * M = 2 * (2 ^ k * M) := by rw [Nat.pow_succ]; rw [Nat.mul_comm (2 ^ k) 2, Nat.mul_assoc]
    rw [rnds, e]
    have h : rnd (2 * (2 ^ k * M)) = 2 ^ k * M := by
      unfold rnd
      rw [if_neg (by omega)]
      omega
    rw [h, rnds_shift k M]

/-- A register led on by bytes is the number of them, reduced bit by bit. -/
theorem lead_num : ∀ (l : List UInt8) (r : Nat), lead r l = rnds (8 * l.length) (r ^^^ num l)
  | [], r => by simp [lead, num, rnds]
  | c :: l, r => by
    show lead (step r c) l = _
    rw [lead_num l, List.length_cons, show 8 * (l.length + 1) = 8 + 8 * l.length from by omega, rnds_add]
    congr 1
    rw [num, low_high _ _ c.toNat_lt, ← Nat.xor_assoc, rnds_xor, show (256 : Nat) = 2 ^ 8 from rfl, rnds_shift]
    rfl

theorem num_lt : ∀ (l : List UInt8), num l < 256 ^ l.length
  | [] => by simp [num]
  | c :: l => by
    have h1 := num_lt l
    have h2 := c.toNat_lt
    rw [num, List.length_cons, Nat.pow_succ]
    omega

theorem num_inj : ∀ (a b : List UInt8), a.length = b.length → num a = num b → a = b
  | [], [], _, _ => rfl
  | [], _ :: _, h, _ => by simp at h
  | _ :: _, [], h, _ => by simp at h
  | c :: a, d :: b, h, e => by
    have h1 := c.toNat_lt
    have h2 := d.toNat_lt
    rw [num, num] at e
    have h3 : c = d := UInt8.toNat_inj.1 (by omega)
    have h4 := num_inj a b (by simpa using h) (by omega)
    rw [h3, h4]

/-- Four bytes are told by what they make of a register. -/
theorem four_inj {r : Nat} {f o : List UInt8} (hf : f.length = 4) (ho : o.length = 4) (h : lead r f = lead r o) : f = o := by
  rw [lead_num, lead_num, hf, ho, rnds_xor, rnds_xor] at h
  have h1 : rnds (8 * 4) (num f ^^^ num o) = 0 := by
    rw [rnds_xor]
    have := congrArg (rnds (8 * 4) r ^^^ ·) h
    simp only [← Nat.xor_assoc, Nat.xor_self, Nat.zero_xor] at this
    rw [this, Nat.xor_self]
  have h2 := num_lt f
  have h3 := num_lt o
  rw [hf] at h2
  rw [ho] at h3
  have h4 := rnds_eq_zero _ (Nat.xor_lt_two_pow (n := 32) (by omega) (by omega)) h1
  have h5 : num f = num o := by
    have := congrArg (· ^^^ num o) h4
    simpa [Nat.xor_assoc] using this
  exact num_inj f o (by omega) h5

theorem xor_two_mul (a b k : Nat) : 2 ^ k * (a ^^^ b) = 2 ^ k * a ^^^ 2 ^ k * b := by
  apply Nat.eq_of_testBit_eq
  intro i
  rw [Nat.testBit_xor, Nat.testBit_two_pow_mul, Nat.testBit_two_pow_mul, Nat.testBit_two_pow_mul, Nat.testBit_xor]
  by_cases h : k ≤ i <;> simp [h]

/-- One bit of bytes turned. -/
theorem num_flip : ∀ (l : List UInt8) (j m : Nat) (h : j < l.length) (d : UInt8), m < 8 → d.toNat = l[j].toNat ^^^ 2 ^ m → num (l.set j d) = num l ^^^ 2 ^ (8 * j + m)
  | c :: l, 0, m, _, d, hm, hd => by
    simp only [List.getElem_cons_zero] at hd
    have h8 : (2 : Nat) ^ m < 2 ^ 8 := Nat.pow_lt_pow_right (by omega) hm
    have hd8 := d.toNat_lt
    rw [List.set_cons_zero, num, num, low_high _ _ d.toNat_lt, low_high _ _ c.toNat_lt, hd, Nat.mul_zero, Nat.zero_add, Nat.xor_assoc, Nat.xor_assoc]
    congr 1
    rw [Nat.xor_comm]
  | c :: l, j + 1, m, h, d, hm, hd => by
    have ih := num_flip l j m (by simpa using h) d hm (by simpa using hd)
    rw [List.set_cons_succ, num, num, ih, low_high _ _ c.toNat_lt, low_high _ _ c.toNat_lt, show (256 : Nat) = 2 ^ 8 from rfl, xor_two_mul, Nat.xor_assoc]
    congr 2
    rw [← Nat.pow_add]
    congr 1
    omega

/-- The lowest bits of a number, one more. -/
theorem low_bits (b i : Nat) : b % 2 ^ (i + 1) = (b % 2 ^ i) ^^^ (if b.testBit i then 2 ^ i else 0) := by
  apply Nat.eq_of_testBit_eq
  intro j
  rw [Nat.testBit_xor, Nat.testBit_mod_two_pow, Nat.testBit_mod_two_pow]
  by_cases hb : b.testBit i
  · rw [if_pos hb, Nat.testBit_two_pow]
    by_cases h1 : j < i
    · simp [h1, show j < i + 1 from by omega, show i ≠ j from by omega]
    · by_cases h2 : j = i
      · subst h2; simp [hb]
      · simp [h1, show ¬ j < i + 1 from by omega, show i ≠ j from by omega]
  · rw [if_neg hb]
    by_cases h1 : j < i
    · simp [h1, show j < i + 1 from by omega]
    · by_cases h2 : j = i
      · subst h2; simp [hb]
      · simp [h1, show ¬ j < i + 1 from by omega]

/-- Bytes that differ in a burst have another sum. -/
theorem burst {a b : List UInt8} {at' bits : Nat} (hl : a.length = b.length) (h : num b = num a ^^^ (2 ^ at' * bits)) (hb : bits < 4294967296) (h0 : bits ≠ 0) (hat : at' ≤ 8 * a.length) : sumOf a ≠ sumOf b := by
  intro he
  have h1 : lead ones a = lead ones b := by
    rw [lead_sum, lead_sum, he]
  rw [lead_num, lead_num, ← hl, h, ← Nat.xor_assoc, rnds_xor _ (ones ^^^ num a)] at h1
  have h2 : rnds (8 * a.length) (2 ^ at' * bits) = 0 := by
    have := congrArg (rnds (8 * a.length) (ones ^^^ num a) ^^^ ·) h1
    simp only [← Nat.xor_assoc, Nat.xor_self, Nat.zero_xor] at this
    exact this.symm
  rw [show 8 * a.length = at' + (8 * a.length - at') from by omega, rnds_add, rnds_shift] at h2
  exact h0 (rnds_eq_zero _ hb h2)
end Go.Proofs.YtgakcaobalfpjaaGreatDoor.C

/- Part: DiskPure. -/
namespace Go.Proofs.YtgakcaobalfpjaaGreatDoor.D

/-- A file: its name, its bytes, how many are safe. -/
structure Fl where
  nm : ByteArray
  b : List UInt8
  safe : Nat

/-- A disk: the room, the files, their names rising; with 'ends', so many calls more are done. -/
structure Dk where
  room : Int
  fs : List Fl
  ends : Bool
  calls : Nat

/-- A byte of a name. -/
def okByte (c : UInt8) : Bool := (97 ≤ c && c ≤ 122) || (48 ≤ c && c ≤ 57) || c == 45 || c == 46

def okName (s : ByteArray) : Bool := s.data.toList.all okByte && decide (0 < s.size ∧ s.size ≤ 32)

/-- Where a file is: the number of all, if it isn't there. -/
def find (fs : List Fl) (s : ByteArray) : Nat := fs.findIdx fun f => f.nm.toList == s.toList

def used (fs : List Fl) : Nat := (fs.map fun f => f.b.length).sum

def Dk.free (d : Dk) : Int := d.room - used d.fs

/-- Where a new name belongs. -/
def place (fs : List Fl) (s : ByteArray) : Nat := fs.findIdx fun f => !Op.bytesLess f.nm.toList s.toList

def add (fs : List Fl) (f : Fl) : List Fl := fs.take (place fs f.nm) ++ f :: fs.drop (place fs f.nm)

def stop (d : Dk) (n : Int) : Dk := { d with ends := decide (0 ≤ n), calls := n.toNat }

/-- Is a call refused, and what becomes of the disk? -/
def Dk.stopped (d : Dk) : Bool := d.ends && d.calls == 0

def Dk.tick (d : Dk) : Dk := if d.ends = true ∧ d.calls ≠ 0 then { d with calls := d.calls - 1 } else d

def isThere (fs : List Fl) (s : ByteArray) : Bool := decide (find fs s < fs.length)

/-- Bytes behind a file's. -/
def layAt (fs : List Fl) (i : Nat) (l : List UInt8) : List Fl := fs.modify i fun f => { f with b := f.b ++ l }

def append (d : Dk) (s : ByteArray) (bs : List (List UInt8)) : Int × Dk :=
  if d.stopped then (32, d)
  else
    let e := d.tick
    if okName s = false then (30, e)
    else if (bs.flatten.length : Int) > e.free ∨ (isThere e.fs s = false ∧ 4096 ≤ e.fs.length) then (31, e)
    else
      let fs := if isThere e.fs s then e.fs else add e.fs ⟨s, [], 0⟩
      (0, { e with fs := layAt fs (find fs s) bs.flatten })

def syncAt (fs : List Fl) (i : Nat) : List Fl := fs.modify i fun f => { f with safe := f.b.length }

def sync (d : Dk) (names : List ByteArray) : Int × Dk :=
  if d.stopped then (32, d)
  else
    let e := d.tick
    if names.all (isThere e.fs) = false then (30, e)
    else (0, { e with fs := names.foldl (fun fs s => syncAt fs (find fs s)) e.fs })

def rename (d : Dk) (a b : ByteArray) : Int × Dk :=
  if d.stopped then (32, d)
  else
    let e := d.tick
    if isThere e.fs a = false ∨ okName b = false then (30, e)
    else
      match e.fs[find e.fs a]? with
      | none => (30, e)
      | some f =>
        let fs := e.fs.eraseIdx (find e.fs a)
        let fs := fs.eraseIdx (find fs b)
        (0, { e with fs := add fs { f with nm := b } })

/-- Are they all there, none of them twice? -/
def eachOnce (fs : List Fl) : List ByteArray → Bool
  | [] => true
  | s :: r => isThere fs s && !(r.any fun t => t.toList == s.toList) && eachOnce fs r

def remove (d : Dk) (names : List ByteArray) : Int × Dk :=
  if d.stopped then (32, d)
  else
    let e := d.tick
    if eachOnce e.fs names = false then (30, e)
    else (0, { e with fs := names.foldl (fun fs s => fs.eraseIdx (find fs s)) e.fs })

def cut (d : Dk) (s : ByteArray) (n : Int) : Int × Dk :=
  if d.stopped then (32, d)
  else
    let e := d.tick
    match e.fs[find e.fs s]? with
    | none => (30, e)
    | some f =>
      if n < 0 ∨ (f.b.length : Int) < n then (2, e)
      else (0, { e with fs := e.fs.modify (find e.fs s) fun f => { f with b := f.b.take n.toNat, safe := min f.safe n.toNat } })

/-- How many bytes stay of a file, by what keep says at its place. -/
def stays (f : Fl) (k : Option Int) : Nat :=
  match k with
  | none => f.safe
  | some k => if 0 < k then f.safe + min k.toNat (f.b.length - f.safe) else f.safe

def crashFs : List Fl → List Int → List Fl
  | [], _ => []
  | f :: r, ks => { f with b := f.b.take (stays f ks.head?), safe := stays f ks.head? } :: crashFs r ks.tail

def crash (d : Dk) (ks : List Int) : Nat × Dk :=
  (used d.fs - used (crashFs d.fs ks), { d with fs := crashFs d.fs ks, ends := false })

theorem okByte_iff (c : UInt8) : okByte c = true ↔ (97 ≤ c.toNat ∧ c.toNat ≤ 122) ∨ (48 ≤ c.toNat ∧ c.toNat ≤ 57) ∨ c.toNat = 45 ∨ c.toNat = 46 := by
  unfold okByte
  simp only [Bool.or_eq_true, Bool.and_eq_true, decide_eq_true_eq, UInt8.le_iff_toNat_le, beq_iff_eq, ← UInt8.toNat_inj]
  simp
  omega

theorem used_take (fs : List Fl) (k : Nat) (h : k < fs.length) : used (fs.take (k + 1)) = used (fs.take k) + fs[k].b.length := by
  unfold used
  rw [List.take_succ_eq_append_getElem h, List.map_append, List.sum_append]
  simp

theorem used_le (fs : List Fl) (k : Nat) : used (fs.take k) ≤ used fs := by
  have h : used fs = used (fs.take k) + used (fs.drop k) := by
    unfold used
    rw [← List.sum_append, ← List.map_append, List.take_append_drop]
  omega

theorem idx_hit {α : Type} (p : α → Bool) (l : List α) (k : Nat) (hk : k < l.length) (h : k ≤ l.findIdx p) (hp : p l[k] = true) : l.findIdx p = k := by
  rcases Nat.lt_or_ge k (l.findIdx p) with h1 | h1
  · have := List.not_of_lt_findIdx h1
    rw [hp] at this; cases this
  · omega

theorem idx_next {α : Type} (p : α → Bool) (l : List α) (k : Nat) (hk : k < l.length) (h : k ≤ l.findIdx p) (hp : p l[k] = false) : k + 1 ≤ l.findIdx p := by
  rcases Nat.lt_or_ge k (l.findIdx p) with h1 | h1
  · omega
  · have e : l.findIdx p = k := by omega
    have := List.findIdx_getElem (p := p) (xs := l) (w := by omega)
    simp only [e, hp] at this
    cases this

theorem find_le (fs : List Fl) (s : ByteArray) : find fs s ≤ fs.length := List.findIdx_le_length

theorem find_hit (fs : List Fl) (s : ByteArray) (k : Nat) (hk : k < fs.length) (h : k ≤ find fs s) (hp : (fs[k].nm.toList == s.toList) = true) : find fs s = k := idx_hit _ fs k hk h hp

theorem find_next (fs : List Fl) (s : ByteArray) (k : Nat) (hk : k < fs.length) (h : k ≤ find fs s) (hp : (fs[k].nm.toList == s.toList) = false) : k + 1 ≤ find fs s := idx_next _ fs k hk h hp

/-- The answer of find. -/
def findR (fs : List Fl) (s : ByteArray) : Int := if find fs s < fs.length then (find fs s : Int) else -1

theorem used_add (fs : List Fl) (f : Fl) : used (add fs f) = used fs + f.b.length := by
  unfold used add
  rw [List.map_append, List.map_cons, List.sum_append, List.sum_cons]
  have : (fs.map fun f => f.b.length).sum = ((fs.take (place fs f.nm)).map fun f => f.b.length).sum + ((fs.drop (place fs f.nm)).map fun f => f.b.length).sum := by
    rw [← List.sum_append, ← List.map_append, List.take_append_drop]
  omega

theorem isThere_add (fs : List Fl) (f : Fl) : isThere (add fs f) f.nm = true := by
  unfold isThere find
  rw [decide_eq_true_eq, List.findIdx_lt_length]
  exact ⟨f, by unfold add; simp, by simp⟩

/-- The first so many are all there, none of them twice. -/
def OnceTo (fs : List Fl) (l : List ByteArray) (k : Nat) : Prop := ∀ (i : Nat) (hi : i < l.length), i < k → isThere fs l[i] = true ∧ ∀ (j : Nat) (hj : j < i), (l[j].toList == l[i].toList) = false

theorem beq_comm_toList (a b : ByteArray) : (a.toList == b.toList) = (b.toList == a.toList) := by
  rw [Bool.eq_iff_iff, beq_iff_eq, beq_iff_eq]
  exact ⟨Eq.symm, Eq.symm⟩

theorem once_of (fs : List Fl) : ∀ (l : List ByteArray), OnceTo fs l l.length → eachOnce fs l = true
  | [], _ => rfl
  | s :: r, h => by
    have h0 := (h 0 (by simp) (by simp)).1
    simp only [List.getElem_cons_zero] at h0
    unfold eachOnce
    rw [h0, once_of fs r fun i hi hk => ?_]
    · have : (r.any fun t => t.toList == s.toList) = false := by
        rw [List.any_eq_false]
        intro t ht
        obtain ⟨i, hi, rfl⟩ := List.mem_iff_getElem.1 ht
        have := (h (i + 1) (by simpa using hi) (by simpa using hi)).2 0 (by omega)
        simp only [List.getElem_cons_zero, List.getElem_cons_succ] at this
        rw [beq_comm_toList, this]; simp
      rw [this]; rfl
    · have := h (i + 1) (by simpa using hi) (by simpa using hk)
      refine ⟨by simpa using this.1, fun j hj => ?_⟩
      have := this.2 (j + 1) (by omega)
      simpa using this

theorem not_once (fs : List Fl) : ∀ (l : List ByteArray), eachOnce fs l = true → OnceTo fs l l.length
  | [], _ => fun i hi => by simp at hi
  | s :: r, h => by
    unfold eachOnce at h
    simp only [Bool.and_eq_true, Bool.not_eq_true'] at h
    obtain ⟨⟨h0, h1⟩, h2⟩ := h
    have ih := not_once fs r h2
    intro i hi _
    cases i with
    | zero => exact ⟨by simpa using h0, fun j hj => by omega⟩
    | succ i =>
      have hi' : i < r.length := by simpa using hi
      refine ⟨by simpa using (ih i hi' hi').1, fun j hj => ?_⟩
      cases j with
      | zero =>
        have := (List.any_eq_false.1 h1) r[i] (List.getElem_mem hi')
        simp only [List.getElem_cons_zero, List.getElem_cons_succ]
        rw [beq_comm_toList]
        simpa using this
      | succ j => simpa using (ih i hi' hi').2 j (by omega)

theorem isThere_iff (fs : List Fl) (s : ByteArray) : isThere fs s = true ↔ ∃ (j : Nat) (h : j < fs.length), (fs[j].nm.toList == s.toList) = true := by
  unfold isThere find
  rw [decide_eq_true_eq, List.findIdx_lt_length]
  constructor
  · rintro ⟨f, hf, h⟩
    obtain ⟨j, hj, rfl⟩ := List.mem_iff_getElem.1 hf
    exact ⟨j, hj, h⟩
  · rintro ⟨j, hj, h⟩
    exact ⟨_, List.getElem_mem hj, h⟩

theorem find_at (fs : List Fl) (s : ByteArray) (h : find fs s < fs.length) : (fs[find fs s].nm.toList == s.toList) = true := List.findIdx_getElem (w := h)

/-- What is there stays there when another name is taken out. -/
theorem isThere_erase {fs : List Fl} {a s : ByteArray} (ha : isThere fs a = true) (hs : isThere fs s = true) (hne : (a.toList == s.toList) = false) : isThere (fs.eraseIdx (find fs a)) s = true := by
  have ha' : find fs a < fs.length := by unfold isThere at ha; simpa using ha
  obtain ⟨j, hj, h⟩ := (isThere_iff fs s).1 hs
  have hja : j ≠ find fs a := fun e => by
    subst e
    have h1 := find_at fs a ha'
    simp only [beq_iff_eq, beq_eq_false_iff_ne, ne_eq] at h h1 hne
    exact hne (h1.symm.trans h)
  rw [isThere_iff]
  rcases Nat.lt_or_ge j (find fs a) with h1 | h1
  · exact ⟨j, by rw [List.length_eraseIdx, if_pos ha']; omega, by rw [List.getElem_eraseIdx_of_lt (h' := h1)]; exact h⟩
  · exact ⟨j - 1, by rw [List.length_eraseIdx, if_pos ha']; omega, by
      rw [List.getElem_eraseIdx_of_ge (h' := by omega)]
      simp only [show j - 1 + 1 = j by omega]
      exact h⟩

theorem isThere_erases {fs : List Fl} {l : List ByteArray} (h : eachOnce fs l = true) : ∀ (k : Nat) (hk : k < l.length), isThere ((l.take k).foldl (fun fs s => fs.eraseIdx (find fs s)) fs) l[k] = true := by
  have ho := not_once fs l h
  have key : ∀ (m : Nat), m ≤ l.length → ∀ (i : Nat) (hi : i < l.length), m ≤ i → isThere ((l.take m).foldl (fun fs s => fs.eraseIdx (find fs s)) fs) l[i] = true := by
    intro m
    induction m with
    | zero => intro _ i hi _; simpa using (ho i hi hi).1
    | succ m ih =>
      intro hm i hi hmi
      rw [List.take_succ_eq_append_getElem (by omega), List.foldl_append]
      simp only [List.foldl_cons, List.foldl_nil]
      exact isThere_erase (ih (by omega) m (by omega) (Nat.le_refl _)) (ih (by omega) i hi (by omega)) ((ho i hi hi).2 m (by omega))
  intro k hk
  exact key k (by omega) k hk (Nat.le_refl _)
end Go.Proofs.YtgakcaobalfpjaaGreatDoor.D

/- Part: DiskRep. -/
namespace Go.Proofs.YtgakcaobalfpjaaGreatDoor.M
open Go.RowKit
open D (Fl Dk)

/-- Nothing but blocks of X has turned. -/
structure Only (X : Nat → Prop) (w w' : World) : Prop where
  os : w'.os = w.os
  tape : w'.tape = w.tape
  output : w'.output = w.output
  size : w.heap.size ≤ w'.heap.size
  block : ∀ k, k < w.heap.size → ¬ X k → w'.heap[k]? = w.heap[k]?

theorem Only.refl (X : Nat → Prop) (w : World) : Only X w w := ⟨rfl, rfl, rfl, Nat.le_refl _, fun _ _ _ => rfl⟩

theorem Only.of_below {X : Nat → Prop} {w w' : World} (h : Below w.heap.size w w') : Only X w w' := ⟨h.os, h.tape, h.output, h.size, fun k hk _ => h.block k hk⟩

/-- X, and all that is new since w. -/
def More (X : Nat → Prop) (w w' : World) (k : Nat) : Prop := X k ∨ (w.heap.size ≤ k ∧ k < w'.heap.size)

theorem Only.trans {X : Nat → Prop} {w w1 w2 : World} (h : Only X w w1) (g : Only (More X w w1) w1 w2) : Only X w w2 :=
  ⟨g.os.trans h.os, g.tape.trans h.tape, g.output.trans h.output, Nat.le_trans h.size g.size, fun k hk hn =>
    (g.block k (Nat.lt_of_lt_of_le hk h.size) fun hm => by
      rcases hm with hm | hm
      · exact hn hm
      · omega).trans (h.block k hk hn)⟩

theorem More.trans {X : Nat → Prop} {w w1 w2 : World} {k : Nat} (h1 : w.heap.size ≤ w1.heap.size) (h2 : w1.heap.size ≤ w2.heap.size) (h : More (More X w w1) w1 w2 k) : More X w w2 k := by
  rcases h with (h | h) | h
  · exact .inl h
  · exact .inr ⟨h.1, by omega⟩
  · exact .inr ⟨by omega, h.2⟩

/-- The cells of a file. -/
def flV (p : Fl × Value) : List Value := [.string p.1.nm, p.2, .int .i64 (p.1.safe : Int)]

def flCells (fv : List (Fl × Value)) : List Value := fv.flatMap flV

theorem flCells_length (fv : List (Fl × Value)) : (flCells fv).length = fv.length * 3 := by
  induction fv with
  | nil => rfl
  | cons p r ih => simp only [flCells, List.flatMap_cons, List.length_append, List.length_cons] at ih ⊢; rw [ih]; simp [flV]; omega

theorem flCells_get : ∀ (fv : List (Fl × Value)) (i : Nat) (h : i < fv.length), (flCells fv)[i * 3]? = some (.string fv[i].1.nm) ∧ (flCells fv)[i * 3 + 1]? = some fv[i].2 ∧ (flCells fv)[i * 3 + 2]? = some (.int .i64 (fv[i].1.safe : Int))
  | p :: r, 0, _ => ⟨rfl, rfl, rfl⟩
  | p :: r, i + 1, h => by
    have ih := flCells_get r i (by simpa using h)
    have e : ∀ j, (flCells (p :: r))[(i + 1) * 3 + j]? = (flCells r)[i * 3 + j]? := fun j => by
      simp only [flCells, List.flatMap_cons]
      rw [List.getElem?_append_right (by simp [flV]; omega)]
      congr 1
      simp [flV]; omega
    exact ⟨(e 0).trans ih.1, (e 1).trans ih.2.1, (e 2).trans ih.2.2⟩

/-- The blocks that a disk lies in. -/
def blocksOf (gd : Nat) (vl : Value) (fv : List (Fl × Value)) : List Nat := gd :: vl.ownBlock.toList ++ fv.flatMap fun p => p.2.ownBlock.toList

/-- A disk in memory, part by part. -/
structure DkAt (w : World) (X : Nat → Prop) (gd : Nat) (d : Dk) (vl : Value) (fv : List (Fl × Value)) : Prop where
  box : ∃ cc : Int, w.heap[gd]? = some (.cells #[.int .i64 d.room, vl, .bool d.ends, .int .i64 cc] 80) ∧ (d.ends = true → cc = (d.calls : Int))
  fs : fv.map (·.1) = d.fs
  row : w.ownsRow 0 83 3 vl fv.length (flCells fv)
  each : ∀ p ∈ fv, w.ownsRow 0 5 1 p.2 p.1.b.length (p.1.b.map byteV)
  apart : (blocksOf gd vl fv).Nodup
  foot : ∀ k ∈ blocksOf gd vl fv, X k

theorem ownsRow_same {w w' : World} {base e size n : Nat} {v : Value} {xs : List Value} (h : w.ownsRow base e size v n xs) (hs : ∀ k, v.ownBlock = some k → w'.heap[k]? = w.heap[k]?) : w'.ownsRow base e size v n xs := by
  obtain ⟨h1, h2 | ⟨g, cap, cur, hv, hg, hcur, h3⟩⟩ := h
  · exact ⟨h1, .inl h2⟩
  · exact ⟨h1, .inr ⟨g, cap, cur, hv, hg, (hs g (by rw [hv]; rfl)).trans hcur, h3⟩⟩

theorem mem_blocks_vl {gd : Nat} {vl : Value} {fv : List (Fl × Value)} {k : Nat} (h : vl.ownBlock = some k) : k ∈ blocksOf gd vl fv := by simp [blocksOf, h]

theorem mem_blocks_file {gd : Nat} {vl : Value} {fv : List (Fl × Value)} {k : Nat} {p : Fl × Value} (hp : p ∈ fv) (h : p.2.ownBlock = some k) : k ∈ blocksOf gd vl fv := by
  simp only [blocksOf, List.cons_append, List.mem_cons, List.mem_append, List.mem_flatMap]
  exact .inr (.inr ⟨p, hp, by simp [h]⟩)

theorem DkAt.same {w w' : World} {X Y : Nat → Prop} {gd : Nat} {d : Dk} {vl : Value} {fv : List (Fl × Value)} (h : DkAt w X gd d vl fv) (hX : ∀ k, X k → Y k) (hs : ∀ k, X k → w'.heap[k]? = w.heap[k]?) : DkAt w' Y gd d vl fv :=
  ⟨by
    obtain ⟨cc, hb, hc⟩ := h.box
    exact ⟨cc, (hs gd (h.foot gd (by simp [blocksOf]))).trans hb, hc⟩, h.fs, ownsRow_same h.row fun k hk => hs k (h.foot k (mem_blocks_vl hk)),
    fun p hp => ownsRow_same (h.each p hp) fun k hk => hs k (h.foot k (mem_blocks_file hp hk)), h.apart, fun k hk => hX k (h.foot k hk)⟩

/-- A disk in memory. -/
def Dsk (w : World) (X : Nat → Prop) (gd : Nat) (d : Dk) : Prop := ∃ vl fv, DkAt w X gd d vl fv

theorem Dsk.same {w w' : World} {X Y : Nat → Prop} {gd : Nat} {d : Dk} (h : Dsk w X gd d) (hX : ∀ k, X k → Y k) (hs : ∀ k, X k → w'.heap[k]? = w.heap[k]?) : Dsk w' Y gd d := by
  obtain ⟨vl, fv, h⟩ := h
  exact ⟨vl, fv, h.same hX hs⟩

/-- The four cells of a disk. -/
theorem DkAt.cells {w : World} {X : Nat → Prop} {gd : Nat} {d : Dk} {vl : Value} {fv : List (Fl × Value)} (h : DkAt w X gd d vl fv) :
    ∃ cc : Int, (w.cell? ⟨gd, 0, none⟩ = some (.int .i64 d.room) ∧ w.cell? ⟨gd, 1, none⟩ = some vl ∧ w.cell? ⟨gd, 2, none⟩ = some (.bool d.ends) ∧ w.cell? ⟨gd, 3, none⟩ = some (.int .i64 cc)) ∧
    (w.frozen? ⟨gd, 0, none⟩ = false ∧ w.frozen? ⟨gd, 1, none⟩ = false ∧ w.frozen? ⟨gd, 2, none⟩ = false ∧ w.frozen? ⟨gd, 3, none⟩ = false) ∧ gd < w.heap.size ∧
    w.heap[gd]? = some (.cells #[.int .i64 d.room, vl, .bool d.ends, .int .i64 cc] 80) ∧ (d.ends = true → cc = (d.calls : Int)) := by
  obtain ⟨cc, hb, hc⟩ := h.box
  exact ⟨cc, ⟨cell_of_row w gd 0 _ _ _ hb, cell_of_row w gd 1 _ _ _ hb, cell_of_row w gd 2 _ _ _ hb, cell_of_row w gd 3 _ _ _ hb⟩,
    ⟨frozen_of_row w gd 0 _ _ hb, frozen_of_row w gd 1 _ _ hb, frozen_of_row w gd 2 _ _ hb, frozen_of_row w gd 3 _ _ hb⟩, lt_of_heap hb, hb, hc⟩

/-- A file's cells. -/
theorem DkAt.file {w : World} {X : Nat → Prop} {gd : Nat} {d : Dk} {vl : Value} {fv : List (Fl × Value)} (h : DkAt w X gd d vl fv) (i : Nat) (hi : i < fv.length) :
    ∃ ga c, vl = .slice (some ⟨ga, 0, none⟩) fv.length c ∧ X ga ∧ ga ≠ gd ∧ ga < w.heap.size ∧ fv.length ≤ c ∧ c ≤ 9223372036854775807 ∧
      w.cell? ⟨ga, i * 3, none⟩ = some (.string fv[i].1.nm) ∧ w.cell? ⟨ga, i * 3 + 1, none⟩ = some fv[i].2 ∧ w.cell? ⟨ga, i * 3 + 2, none⟩ = some (.int .i64 (fv[i].1.safe : Int)) ∧ (∀ j, w.frozen? ⟨ga, j, none⟩ = false) := by
  have hr := h.row
  rcases hr.2 with ⟨h1, h2⟩ | ⟨g, cap, cur, hv, hg, hcur, hn, hm, hs, ht⟩
  · omega
  · have hgd : g ≠ gd := by
      intro e
      have := h.apart
      rw [blocksOf, List.cons_append, List.nodup_cons] at this
      apply this.1
      rw [hv, e]; simp [Value.ownBlock]
    rw [hv] at hr
    have hX : X g := h.foot g (mem_blocks_vl (by rw [hv]; rfl))
    obtain ⟨a, b, c⟩ := flCells_get fv i hi
    unfold maxLen at hm
    exact ⟨g, cap, hv, hX, hgd, (hr.lt g rfl).2, hn, hm, by rw [hr.cellAt _ (by omega)]; exact a, by rw [hr.cellAt _ (by omega)]; exact b, by rw [hr.cellAt _ (by omega)]; exact c, fun j => hr.frozenAt j⟩

theorem DkAt.len {w : World} {X : Nat → Prop} {gd : Nat} {d : Dk} {vl : Value} {fv : List (Fl × Value)} (h : DkAt w X gd d vl fv) : fv.length ≤ 9223372036854775807 ∧ d.fs.length = fv.length := by
  refine ⟨?_, by rw [← h.fs]; simp⟩
  rcases h.row.2 with ⟨h1, h2⟩ | ⟨g, cap, cur, hv, hg, hcur, hn, hm, hs, ht⟩
  · omega
  · unfold maxLen at hm; omega

theorem DkAt.get {w : World} {X : Nat → Prop} {gd : Nat} {d : Dk} {vl : Value} {fv : List (Fl × Value)} (h : DkAt w X gd d vl fv) (k : Nat) (hk : k < fv.length) (hk2 : k < d.fs.length) : fv[k].1 = d.fs[k] := by
  have := h.fs
  simp only [← this, List.getElem_map]

/-- A file's bytes, as a slice. -/
theorem DkAt.bytes {w : World} {X : Nat → Prop} {gd : Nat} {d : Dk} {vl : Value} {fv : List (Fl × Value)} (h : DkAt w X gd d vl fv) (k : Nat) (hk : k < fv.length) : ∃ a c, fv[k].2 = .slice a fv[k].1.b.length c ∧ fv[k].1.b.length ≤ 9223372036854775807 := by
  have he := h.each fv[k] (List.getElem_mem hk)
  obtain ⟨a, c, hv⟩ := owned_slice he
  refine ⟨a, c, hv, ?_⟩
  rcases he.2 with ⟨h1, h2⟩ | ⟨g, cap, cur, hv, hg, hcur, hn, hm, hs, ht⟩
  · omega
  · unfold maxLen at hm; omega

theorem Only.mono {X Y : Nat → Prop} {w w' : World} (h : Only X w w') (hX : ∀ k, X k → Y k) : Only Y w w' := ⟨h.os, h.tape, h.output, h.size, fun k hk hn => h.block k hk fun hx => hn (hX k hx)⟩

theorem Only.alloc {X : Nat → Prop} {w w' : World} (h : Only X w w') (o : Obj) : Only X w (w'.alloc o) :=
  ⟨h.os, h.tape, h.output, by have := h.size; simp; omega, fun k hk hn => by rw [Below.heap_alloc _ _ _ (Nat.lt_of_lt_of_le hk h.size)]; exact h.block k hk hn⟩

theorem Only.set {X : Nat → Prop} {w w' : World} (h : Only X w w') {g j : Nat} (hg : X g ∨ w.heap.size ≤ g) (v : Value) : Only X w (w'.setCell ⟨g, j, none⟩ v) :=
  ⟨h.os, h.tape, h.output, by have := h.size; simp; omega, fun k hk hn => by
    rw [Below.heap_setCell _ _ _ _ (by
      show k ≠ g
      intro e
      rcases hg with hg | hg
      · exact hn (e ▸ hg)
      · omega)]
    exact h.block k hk hn⟩

/-- What the answers of calls on a disk need of it. -/
def Fine (d : Dk) : Prop := d.fs.length ≤ 4096 ∧ d.calls ≤ 9223372036854775807 ∧ 0 ≤ d.free ∧ 0 ≤ d.room ∧ d.room ≤ 9223372036854775807

/-- A disk in memory that is there, with all of its memory. -/
def DskIn (w : World) (X : Nat → Prop) (gd : Nat) (d : Dk) : Prop := Dsk w X gd d ∧ ∀ k, X k → k < w.heap.size
end Go.Proofs.YtgakcaobalfpjaaGreatDoor.M

/- Part: DiskMem. -/
namespace Go.Proofs.YtgakcaobalfpjaaGreatDoor.D

theorem toList_data (s : ByteArray) : s.toList = s.data.toList := ByteArray.toList_eq s

theorem nm_ext {a b : ByteArray} (h : a.toList = b.toList) : a = b := by
  rw [toList_data, toList_data] at h
  cases a; cases b
  simp only [ByteArray.mk.injEq]
  exact Array.toList_inj.1 h

theorem beq_nm (a b : ByteArray) : (a.toList == b.toList) = decide (a = b) := by
  rw [Bool.eq_iff_iff, beq_iff_eq, decide_eq_true_eq]
  exact ⟨nm_ext, fun h => by rw [h]⟩

/-- The names rise. -/
def Rising (fs : List Fl) : Prop := fs.Pairwise fun a b => a.nm.toList < b.nm.toList

theorem lt_irrefl' (l : List UInt8) : ¬ l < l := List.lt_irrefl l

theorem Rising.ne {fs : List Fl} (h : Rising fs) : fs.Pairwise fun a b => a.nm ≠ b.nm := List.Pairwise.imp (R := fun a b : Fl => a.nm.toList < b.nm.toList) (S := fun a b : Fl => a.nm ≠ b.nm) (fun {a b} hab e => lt_irrefl' _ (by rw [e] at hab; exact hab)) h

theorem Rising.uniq {fs : List Fl} (h : Rising fs) {f g : Fl} (hf : f ∈ fs) (hg : g ∈ fs) (e : f.nm = g.nm) : f = g := by
  have hp := h.ne
  clear h
  induction fs with
  | nil => cases hf
  | cons x r ih =>
    obtain ⟨h1, h2⟩ := List.pairwise_cons.1 hp
    rcases List.mem_cons.1 hf with ef | hf'
    · rcases List.mem_cons.1 hg with eg | hg'
      · rw [ef, eg]
      · exact absurd (ef ▸ e) (h1 g hg')
    · rcases List.mem_cons.1 hg with eg | hg'
      · exact absurd (eg ▸ e).symm (h1 f hf')
      · exact ih hf' hg' h2

theorem isThere_mem {fs : List Fl} {s : ByteArray} : isThere fs s = true ↔ ∃ f ∈ fs, f.nm = s := by
  rw [isThere_iff]
  constructor
  · rintro ⟨j, hj, h⟩
    exact ⟨fs[j], List.getElem_mem hj, by rw [beq_nm] at h; simpa using h⟩
  · rintro ⟨f, hf, rfl⟩
    obtain ⟨j, hj, rfl⟩ := List.mem_iff_getElem.1 hf
    exact ⟨j, hj, by simp⟩

theorem isThere_not {fs : List Fl} {s : ByteArray} : isThere fs s = false ↔ ∀ f ∈ fs, f.nm ≠ s := by
  rw [← Bool.not_eq_true, isThere_mem]
  simp

theorem find_lt {fs : List Fl} {s : ByteArray} (h : isThere fs s = true) : find fs s < fs.length := by simpa [isThere] using h

theorem find_ge {fs : List Fl} {s : ByteArray} (h : isThere fs s = false) : fs.length ≤ find fs s := by simpa [isThere] using h

theorem find_nm {fs : List Fl} {s : ByteArray} (h : find fs s < fs.length) : fs[find fs s].nm = s := by
  have := find_at fs s h
  rw [beq_nm] at this
  simpa using this

theorem Rising.find_eq {fs : List Fl} (h : Rising fs) {i : Nat} (hi : i < fs.length) {s : ByteArray} (e : fs[i].nm = s) : find fs s = i := by
  have hl : find fs s < fs.length := find_lt (isThere_mem.2 ⟨_, List.getElem_mem hi, e⟩)
  have hn := find_nm hl
  have hp := List.pairwise_iff_getElem.1 h.ne
  rcases Nat.lt_trichotomy (find fs s) i with h1 | h1 | h1
  · exact absurd (hn.trans e.symm) (hp _ _ hl hi h1)
  · exact h1
  · exact absurd (e.trans hn.symm) (hp _ _ hi hl h1)

theorem erase_beyond {fs : List Fl} {s : ByteArray} (h : isThere fs s = false) : fs.eraseIdx (find fs s) = fs := List.eraseIdx_of_length_le (find_ge h)

theorem Rising.erase {fs : List Fl} (h : Rising fs) (i : Nat) : Rising (fs.eraseIdx i) := List.Pairwise.sublist (List.eraseIdx_sublist ..) h

theorem mem_erase {fs : List Fl} (h : Rising fs) {s : ByteArray} {f : Fl} : f ∈ fs.eraseIdx (find fs s) ↔ f ∈ fs ∧ f.nm ≠ s := by
  cases ht : isThere fs s with
  | false =>
    rw [erase_beyond ht]
    exact ⟨fun hf => ⟨hf, isThere_not.1 ht f hf⟩, fun hf => hf.1⟩
  | true =>
    have hl := find_lt ht
    have hn := find_nm hl
    constructor
    · intro hf
      obtain ⟨j, hj, hji, rfl⟩ := List.mem_eraseIdx_iff_getElem.1 hf
      exact ⟨List.getElem_mem _, fun e => hji (h.find_eq hj e).symm⟩
    · rintro ⟨hf, hne⟩
      obtain ⟨j, hj, rfl⟩ := List.mem_iff_getElem.1 hf
      exact List.mem_eraseIdx_iff_getElem.2 ⟨j, hj, fun e => hne (by subst e; exact hn), rfl⟩

theorem mem_add {fs : List Fl} {x f : Fl} : f ∈ add fs x ↔ f = x ∨ f ∈ fs := by
  unfold add
  rw [List.mem_append, List.mem_cons]
  constructor
  · rintro (h | h | h)
    · exact .inr (List.mem_of_mem_take h)
    · exact .inl h
    · exact .inr (List.mem_of_mem_drop h)
  · rintro (h | h)
    · exact .inr (.inl h)
    · rw [← List.take_append_drop (place fs x.nm) fs, List.mem_append] at h
      rcases h with h | h
      · exact .inl h
      · exact .inr (.inr h)

theorem length_add (fs : List Fl) (x : Fl) : (add fs x).length = fs.length + 1 := by
  unfold add
  simp only [List.length_append, List.length_cons, List.length_take, List.length_drop]
  omega

theorem Rising.add {fs : List Fl} (h : Rising fs) {x : Fl} (hx : ∀ f ∈ fs, f.nm ≠ x.nm) : Rising (add fs x) := by
  unfold D.add
  have hb : ∀ (i : Nat) (hi : i < fs.length), i < place fs x.nm → fs[i].nm.toList < x.nm.toList := fun i hi hlt => by
    have := List.not_of_lt_findIdx (p := fun f : Fl => !Op.bytesLess f.nm.toList x.nm.toList) (xs := fs) hlt
    rw [bytesLess_eq] at this
    simpa using this
  have ha : ∀ (i : Nat) (hi : i < fs.length), place fs x.nm ≤ i → x.nm.toList < fs[i].nm.toList := fun i hi hle => by
    have hp : place fs x.nm < fs.length := Nat.lt_of_le_of_lt hle hi
    have h1 := List.findIdx_getElem (p := fun f : Fl => !Op.bytesLess f.nm.toList x.nm.toList) (xs := fs) (w := hp)
    rw [bytesLess_eq] at h1
    have h2 : x.nm.toList ≤ fs[place fs x.nm].nm.toList := List.not_lt.1 fun hlt => by
      have h1' : (!decide (fs[place fs x.nm].nm.toList < x.nm.toList)) = true := h1
      rw [decide_eq_true hlt] at h1'
      cases h1'
    have h3 : x.nm.toList < fs[place fs x.nm].nm.toList := by
      rcases List.le_iff_lt_or_eq.1 h2 with h3 | h3
      · exact h3
      · exact absurd (nm_ext h3.symm) (hx _ (List.getElem_mem hp))
    rcases Nat.lt_or_ge (place fs x.nm) i with h4 | h4
    · exact List.lt_trans h3 (List.pairwise_iff_getElem.1 h _ _ hp hi h4)
    · have : i = place fs x.nm := by omega
      subst this; exact h3
  refine List.pairwise_append.2 ⟨h.sublist (List.take_sublist ..), List.pairwise_cons.2 ⟨fun f hf => ?_, h.sublist (List.drop_sublist ..)⟩, fun a haa b hb' => ?_⟩
  · obtain ⟨j, hj, rfl⟩ := List.mem_iff_getElem.1 hf
    rw [List.getElem_drop]
    exact ha _ _ (by omega)
  · obtain ⟨i, hi, rfl⟩ := List.mem_iff_getElem.1 haa
    have hi' : i < place fs x.nm ∧ i < fs.length := by simp at hi; omega
    rw [List.getElem_take]
    rcases List.mem_cons.1 hb' with rfl | hb'
    · exact hb i hi'.2 hi'.1
    · obtain ⟨j, hj, rfl⟩ := List.mem_iff_getElem.1 hb'
      rw [List.getElem_drop]
      exact List.lt_trans (hb i hi'.2 hi'.1) (ha _ _ (by omega))

/-- One file turned, its name the same. -/
theorem names_modify (fs : List Fl) (i : Nat) (g : Fl → Fl) (hg : ∀ f, (g f).nm = f.nm) : (fs.modify i g).map (·.nm) = fs.map (·.nm) := by
  apply List.ext_getElem?
  intro j
  rw [List.getElem?_map, List.getElem?_map, List.getElem?_modify]
  cases fs[j]? with
  | none => rfl
  | some f => by_cases hj : i = j <;> simp [hj, hg]

theorem Rising.of_names {fs fs' : List Fl} (h : Rising fs) (e : fs'.map (·.nm) = fs.map (·.nm)) : Rising fs' := by
  have h1 : (fs.map (·.nm)).Pairwise fun a b => a.toList < b.toList := List.pairwise_map.2 h
  rw [← e] at h1
  exact (List.pairwise_map (f := fun f : Fl => f.nm) (R := fun a b => a.toList < b.toList)).1 h1

theorem mem_modify {fs : List Fl} (h : Rising fs) {s : ByteArray} {g : Fl → Fl} {f : Fl} (hf : f ∈ fs.modify (find fs s) g) : (f ∈ fs ∧ f.nm ≠ s) ∨ ∃ f0 ∈ fs, f0.nm = s ∧ f = g f0 := by
  obtain ⟨j, hj, rfl⟩ := List.mem_iff_getElem.1 hf
  have hj' : j < fs.length := by simpa using hj
  rw [List.getElem_modify]
  by_cases e : find fs s = j
  · rw [if_pos e]
    exact .inr ⟨_, List.getElem_mem hj', by subst e; exact find_nm hj', rfl⟩
  · rw [if_neg e]
    exact .inl ⟨List.getElem_mem _, fun e' => e (h.find_eq hj' e')⟩

theorem used_append (a b : List Fl) : used (a ++ b) = used a + used b := by
  unfold used
  rw [List.map_append, List.sum_append]

theorem used_cons (f : Fl) (l : List Fl) : used (f :: l) = f.b.length + used l := rfl

theorem used_at (l : List Fl) (j : Nat) (hj : j < l.length) : used l = used (l.take j) + (l[j].b.length + used (l.drop (j + 1))) := by
  rw [← used_cons, ← List.drop_eq_getElem_cons hj, ← used_append, List.take_append_drop]

theorem used_modify (fs : List Fl) (i : Nat) (g : Fl → Fl) (hi : i < fs.length) : used (fs.modify i g) + fs[i].b.length = used fs + (g fs[i]).b.length := by
  have hl : i < (fs.modify i g).length := by simpa using hi
  rw [used_at fs i hi, used_at _ i hl]
  have e1 : (fs.modify i g).take i = fs.take i := by
    apply List.ext_getElem?
    intro j
    by_cases hj : j < i
    · rw [List.getElem?_take_of_lt hj, List.getElem?_take_of_lt hj, List.getElem?_modify]
      simp only [show i ≠ j by omega, if_false]
      simp
    · rw [List.getElem?_take_eq_none (by omega), List.getElem?_take_eq_none (by omega)]
  have e2 : (fs.modify i g).drop (i + 1) = fs.drop (i + 1) := by
    apply List.ext_getElem?
    intro j
    rw [List.getElem?_drop, List.getElem?_drop, List.getElem?_modify]
    simp only [show i ≠ i + 1 + j by omega, if_false]
    simp
  rw [e1, e2]
  simp
  omega

theorem used_erase (fs : List Fl) (i : Nat) (hi : i < fs.length) : used (fs.eraseIdx i) + fs[i].b.length = used fs := by
  rw [List.eraseIdx_eq_take_drop_succ, used_append, used_at fs i hi]
  omega

theorem used_mem {fs : List Fl} {f : Fl} (h : f ∈ fs) : f.b.length ≤ used fs := by
  obtain ⟨j, hj, rfl⟩ := List.mem_iff_getElem.1 h
  have := used_erase fs j hj
  omega
end Go.Proofs.YtgakcaobalfpjaaGreatDoor.D

/- Part: DiskMap. -/
namespace Go.Proofs.YtgakcaobalfpjaaGreatDoor.M
open Go.RowKit Go.Maps
open D (Fl Dk)

/-- How a file's pointer reads: by its block's number. -/
def ptrElem (v : Value) : Option (DataW Nat × List MemPlace) :=
  match v with
  | .pointer none => some (.nil, [])
  | .pointer (some ⟨b, 0, none⟩) => some (.held b, [])
  | _ => none

theorem ptrElem_inv {v : Value} {y : DataW Nat × List MemPlace} (h : ptrElem v = some y) : (v = .pointer none ∧ y = (.nil, [])) ∨ ∃ b, v = .pointer (some ⟨b, 0, none⟩) ∧ y = (.held b, []) := by
  unfold ptrElem at h
  split at h
  · cases h; exact .inl ⟨rfl, rfl⟩
  · rename_i b
    cases h; exact .inr ⟨b, rfl, rfl⟩
  · cases h

theorem law9 : Keyed Tryz.prog 9 := string_keyed Tryz.underlying9

theorem zeroPtr (w : World) : (zeroValue 94).run Tryz.prog w = .ok (.pointer none) w := by kernel_rfl

theorem key_of {s : ByteArray} (h : s.size ≤ 9223372036854775807) : keyOf Tryz.prog 9 (.string s) = some (.string s.data.toList) := by
  simp only [keyOf, Tryz.underlying9, mapKey]
  rw [if_pos (by unfold maxLen; exact h)]

/-- How many calls more are done. -/
def restOf (d : Dk) : Int := if d.ends then (d.calls : Int) else -1

/-- A file in memory. -/
def FileAt (w : World) (b : Nat) (v : Value) (f : Fl) : Prop :=
  w.heap[b]? = some (.cells #[v, .int .i64 (f.safe : Int)] 108) ∧ w.ownsRow 0 5 1 v f.b.length (f.b.map byteV)

theorem FileAt.same {w w' : World} {b : Nat} {v : Value} {f : Fl} (h : FileAt w b v f) (hb : w'.heap[b]? = w.heap[b]?) (hv : ∀ k, v.ownBlock = some k → w'.heap[k]? = w.heap[k]?) : FileAt w' b v f :=
  ⟨hb.trans h.1, ownsRow_same h.2 hv⟩

/-- The program's disk in memory, part by part: its free bytes, its map's block, what the map reads as, where each file lies. -/
structure PDAt (w : World) (X : Nat → Prop) (gd : Nat) (d : Dk) (fr : Int) (gm : Nat) (M : DataW Nat) (E : ByteArray → Nat × Value) : Prop where
  box : w.heap[gd]? = some (.cells #[.int .i64 fr, .int .i64 (restOf d), .map (some gm)] 93)
  map : w.ownsMap Tryz.prog 9 ptrElem gm d.fs.length M
  keys : ∀ (s : ByteArray) (z : DataW Nat), M.atKey (.string s.data.toList) z = if D.isThere d.fs s then .held (E s).1 else z
  size : Maps.size M = d.fs.length
  each : ∀ f ∈ d.fs, FileAt w (E f.nm).1 (E f.nm).2 f
  apart : ∀ f ∈ d.fs, ∀ g ∈ d.fs, f.nm ≠ g.nm → (E f.nm).1 ≠ (E g.nm).1 ∧ ∀ k, (E f.nm).2.ownBlock = some k → (E g.nm).2.ownBlock ≠ some k
  foot : X gd ∧ X gm ∧ ∀ f ∈ d.fs, X (E f.nm).1 ∧ ∀ k, (E f.nm).2.ownBlock = some k → X k

/-- What the program's disk in memory is good for. -/
def PDsk (w : World) (X : Nat → Prop) (gd : Nat) (d : Dk) : Prop := ∃ gm M E, PDAt w X gd d d.free gm M E

def PDskIn (w : World) (X : Nat → Prop) (gd : Nat) (d : Dk) : Prop := PDsk w X gd d ∧ ∀ k, X k → k < w.heap.size

/-- Where a file lies, as a value. -/
def ptrOf (d : Dk) (E : ByteArray → Nat × Value) (s : ByteArray) : Value := if D.isThere d.fs s then .pointer (some ⟨(E s).1, 0, none⟩) else .pointer none

theorem ownsMap_same {w w' : World} {gm n : Nat} {M : DataW Nat} (h : w.ownsMap Tryz.prog 9 ptrElem gm n M) (hg : w'.heap[gm]? = w.heap[gm]?) : w'.ownsMap Tryz.prog 9 ptrElem gm n M := by
  obtain ⟨es, clock, hb, F, hs, hD⟩ := h
  exact ⟨es, clock, hg.trans hb, F, hs, hD⟩

theorem PDAt.same {w w' : World} {X Y : Nat → Prop} {gd gm : Nat} {d : Dk} {fr : Int} {M : DataW Nat} {E : ByteArray → Nat × Value} (h : PDAt w X gd d fr gm M E) (hX : ∀ k, X k → Y k) (hs : ∀ k, X k → w'.heap[k]? = w.heap[k]?) : PDAt w' Y gd d fr gm M E :=
  ⟨(hs gd h.foot.1).trans h.box, ownsMap_same h.map (hs gm h.foot.2.1), h.keys, h.size, fun f hf => (h.each f hf).same (hs _ (h.foot.2.2 f hf).1) fun k hk => hs k ((h.foot.2.2 f hf).2 k hk), h.apart,
    hX _ h.foot.1, hX _ h.foot.2.1, fun f hf => ⟨hX _ (h.foot.2.2 f hf).1, fun k hk => hX k ((h.foot.2.2 f hf).2 k hk)⟩⟩

theorem PDsk.same {w w' : World} {X Y : Nat → Prop} {gd : Nat} {d : Dk} (h : PDsk w X gd d) (hX : ∀ k, X k → Y k) (hs : ∀ k, X k → w'.heap[k]? = w.heap[k]?) : PDsk w' Y gd d := by
  obtain ⟨gm, M, E, h⟩ := h
  exact ⟨gm, M, E, h.same hX hs⟩

theorem PDsk.up {w w' : World} {X : Nat → Prop} {gd : Nat} {d : Dk} (h : PDsk w' X gd d) : PDsk w' (More X w w') gd d := h.same (fun _ hk => .inl hk) fun _ _ => rfl

section
variable {w : World} {X : Nat → Prop} {gd gm : Nat} {d : Dk} {fr : Int} {M : DataW Nat} {E : ByteArray → Nat × Value}

theorem PDAt.cells (h : PDAt w X gd d fr gm M E) :
    (w.cell? ⟨gd, 0, none⟩ = some (.int .i64 fr) ∧ w.cell? ⟨gd, 1, none⟩ = some (.int .i64 (restOf d)) ∧ w.cell? ⟨gd, 2, none⟩ = some (.map (some gm))) ∧
    (w.frozen? ⟨gd, 0, none⟩ = false ∧ w.frozen? ⟨gd, 1, none⟩ = false ∧ w.frozen? ⟨gd, 2, none⟩ = false) ∧ gd < w.heap.size :=
  ⟨⟨cell_of_row w gd 0 _ _ _ h.box, cell_of_row w gd 1 _ _ _ h.box, cell_of_row w gd 2 _ _ _ h.box⟩, ⟨frozen_of_row w gd 0 _ _ h.box, frozen_of_row w gd 1 _ _ h.box, frozen_of_row w gd 2 _ _ h.box⟩, lt_of_heap h.box⟩

/-- A look-up. -/
theorem PDAt.look (h : PDAt w X gd d fr gm M E) {s : ByteArray} (hs : s.size ≤ 9223372036854775807) {w' : World} (hw : w'.heap[gm]? = w.heap[gm]?) :
    (Instr.lookup 91 (.map (some gm)) (.string s) false).run Tryz.prog w' = .ok (ptrOf d E s) w' := by
  obtain ⟨v, ps, hrun, hv⟩ := (ownsMap_same h.map hw).lookup law9 Tryz.underlying91 (zeroPtr w') (zd := .nil) (zp := []) rfl (key_of hs)
  rw [hrun]
  rw [h.keys] at hv
  unfold ptrOf
  cases ht : D.isThere d.fs s with
  | true =>
    rw [ht] at hv
    simp only [if_true] at hv ⊢
    rcases ptrElem_inv hv with ⟨rfl, e⟩ | ⟨b, rfl, e⟩
    · cases e
    · cases e; rfl
  | false =>
    rw [ht] at hv
    simp only [Bool.false_eq_true, if_false] at hv ⊢
    rcases ptrElem_inv hv with ⟨rfl, e⟩ | ⟨b, rfl, e⟩
    · rfl
    · cases e

theorem PDAt.len (h : PDAt w X gd d fr gm M E) {w' : World} (hw : w'.heap[gm]? = w.heap[gm]?) (ty : TypeId) :
    (Builtin.len_ #[91] ty #[.map (some gm)]).run Tryz.prog w' = .ok (.int .i64 (d.fs.length : Int)) w' := by
  rw [← h.size]
  exact (ownsMap_same h.map hw).len Tryz.underlying91 ty

/-- No two kinds of blocks are one. -/
theorem PDAt.kinds (h : PDAt w X gd d fr gm M E) : gm ≠ gd ∧ (∀ f ∈ d.fs, (E f.nm).1 ≠ gd ∧ (E f.nm).1 ≠ gm) ∧ ∀ f ∈ d.fs, ∀ k, (E f.nm).2.ownBlock = some k → k ≠ gd ∧ k ≠ gm ∧ ∀ g ∈ d.fs, k ≠ (E g.nm).1 := by
  have hm : ∃ es c, w.heap[gm]? = some (.map es c) := by
    obtain ⟨es, clock, hb, _⟩ := h.map
    exact ⟨es, clock, hb⟩
  obtain ⟨es, c, hm⟩ := hm
  have hf : ∀ f ∈ d.fs, ∃ cs, w.heap[(E f.nm).1]? = some (.cells cs 108) := fun f hf => ⟨_, (h.each f hf).1⟩
  have hr : ∀ f ∈ d.fs, ∀ k, (E f.nm).2.ownBlock = some k → ∃ cs, w.heap[k]? = some (.cells cs 5 (0, 0)) := fun f hf k hk => by
    rcases (h.each f hf).2.2 with ⟨h1, _⟩ | ⟨g, cap, cur, hv, _, hcur, _⟩
    · rw [h1] at hk; cases hk
    · rw [hv] at hk; cases hk; exact ⟨_, hcur⟩
  have hb := h.box
  refine ⟨fun e => ?_, fun f hf1 => ?_, fun f hf1 k hk => ?_⟩
  · rw [e, hb] at hm; cases hm
  · obtain ⟨cs, h1⟩ := hf f hf1
    refine ⟨fun e => ?_, fun e => ?_⟩
    · rw [e, hb] at h1; simp at h1
    · rw [e, hm] at h1; cases h1
  · obtain ⟨cs, h1⟩ := hr f hf1 k hk
    refine ⟨fun e => ?_, fun e => ?_, fun g hg e => ?_⟩
    · rw [e, hb] at h1; simp at h1
    · rw [e, hm] at h1; cases h1
    · obtain ⟨cs2, h2⟩ := hf g hg
      rw [e, h2] at h1; simp at h1

/-- A file's cells. -/
theorem FileAt.cells {b : Nat} {v : Value} {f : Fl} (h : FileAt w b v f) :
    w.cell? ⟨b, 0, none⟩ = some v ∧ w.cell? ⟨b, 1, none⟩ = some (.int .i64 (f.safe : Int)) ∧ w.frozen? ⟨b, 0, none⟩ = false ∧ w.frozen? ⟨b, 1, none⟩ = false ∧ b < w.heap.size ∧ ∃ a c, v = .slice a f.b.length c ∧ f.b.length ≤ c ∧ c ≤ 9223372036854775807 := by
  refine ⟨cell_of_row w b 0 _ _ _ h.1, cell_of_row w b 1 _ _ _ h.1, frozen_of_row w b 0 _ _ h.1, frozen_of_row w b 1 _ _ h.1, lt_of_heap h.1, ?_⟩
  rcases h.2.2 with ⟨h1, h2⟩ | ⟨g, cap, cur, hv, hg, hcur, hn, hm, hs, ht⟩
  · exact ⟨none, 0, by rw [h1, h2], by omega, by omega⟩
  · exact ⟨_, cap, hv, hn, by unfold maxLen at hm; exact hm⟩

/-- Another rest. -/
theorem PDAt.ticked (h : PDAt w X gd d fr gm M E) {d' : Dk} {fr' : Int} {w' : World} (hfs : d'.fs = d.fs) (hb : w'.heap[gd]? = some (.cells #[.int .i64 fr', .int .i64 (restOf d'), .map (some gm)] 93)) (hs : ∀ k, k ≠ gd → w'.heap[k]? = w.heap[k]?) : PDAt w' X gd d' fr' gm M E := by
  obtain ⟨k1, k2, k3⟩ := h.kinds
  exact ⟨hb, by rw [hfs]; exact ownsMap_same h.map (hs gm k1), by rw [hfs]; exact h.keys, by rw [hfs]; exact h.size, by
    rw [hfs]; exact fun f hf => (h.each f hf).same (hs _ (k2 f hf).1) fun k hk => hs k (k3 f hf k hk).1, by rw [hfs]; exact h.apart, by rw [hfs]; exact h.foot⟩

/-- One file turned. -/
theorem PDAt.turned (h : PDAt w X gd d fr gm M E) (_hr : D.Rising d.fs) {s : ByteArray} (hs : D.isThere d.fs s = true) {d' : Dk} {v' : Value} {f' : Fl} {w' : World} {Y : Nat → Prop} (hX : ∀ k, X k → k < w.heap.size) (hXY : ∀ k, X k → Y k)
    (hrest : restOf d' = restOf d) (hn : d'.fs.map (·.nm) = d.fs.map (·.nm)) (hmem : ∀ f ∈ d'.fs, (f ∈ d.fs ∧ f.nm ≠ s) ∨ f = f') (hf' : f'.nm = s)
    (hat : FileAt w' (E s).1 v' f') (hno : ∀ k, v'.ownBlock = some k → (E s).2.ownBlock = some k ∨ (Y k ∧ w.heap.size ≤ k))
    (hw : ∀ k, k < w.heap.size → k ≠ (E s).1 → (E s).2.ownBlock ≠ some k → w'.heap[k]? = w.heap[k]?) :
    PDAt w' Y gd d' fr gm M (fun t => if t = s then ((E s).1, v') else E t) := by
  obtain ⟨k1, k2, k3⟩ := h.kinds
  obtain ⟨fs, hfs, hfn⟩ := D.isThere_mem.1 hs
  subst hfn
  have hlen : d'.fs.length = d.fs.length := by simpa using congrArg List.length hn
  have hth : ∀ t, D.isThere d'.fs t = D.isThere d.fs t := fun t => by
    have hm : ∀ (a b : List Fl), a.map (·.nm) = b.map (·.nm) → D.isThere a t = true → D.isThere b t = true := fun a b e hh => by
      obtain ⟨f, hf, hft⟩ := D.isThere_mem.1 hh
      have : t ∈ b.map (·.nm) := by rw [← e]; exact List.mem_map.2 ⟨f, hf, hft⟩
      obtain ⟨g, hg, hgt⟩ := List.mem_map.1 this
      exact D.isThere_mem.2 ⟨g, hg, hgt⟩
    rw [Bool.eq_iff_iff]
    exact ⟨hm _ _ hn, hm _ _ hn.symm⟩
  have hgdlt := hX gd h.foot.1
  have hgmlt := hX gm h.foot.2.1
  have hfilelt : ∀ f ∈ d.fs, (E f.nm).1 < w.heap.size ∧ ∀ k, (E f.nm).2.ownBlock = some k → k < w.heap.size := fun f hf => ⟨hX _ (h.foot.2.2 f hf).1, fun k hk => hX k ((h.foot.2.2 f hf).2 k hk)⟩
  have hother : ∀ f ∈ d.fs, f.nm ≠ fs.nm → FileAt w' (E f.nm).1 (E f.nm).2 f := fun f hf hne =>
    (h.each f hf).same (hw _ (hfilelt f hf).1 ((h.apart f hf fs hfs hne).1) fun hk => (k3 fs hfs _ hk).2.2 f hf rfl) fun k hk =>
      hw k ((hfilelt f hf).2 k hk) (fun e => (k3 f hf k hk).2.2 fs hfs e) ((h.apart f hf fs hfs hne).2 k hk)
  have hmem2 : ∀ f ∈ d'.fs, f.nm ≠ fs.nm → f ∈ d.fs := fun f hf hne => by
    rcases hmem f hf with ⟨h1, _⟩ | h1
    · exact h1
    · exact absurd (h1 ▸ hf') hne
  have hmem3 : ∀ f ∈ d'.fs, f.nm = fs.nm → f = f' := fun f hf he => by
    rcases hmem f hf with ⟨_, h1⟩ | h1
    · exact absurd he h1
    · exact h1
  refine ⟨?_, ?_, ?_, by rw [hlen]; exact h.size, ?_, ?_, ?_⟩
  · rw [hrest]
    exact (hw gd hgdlt (fun e => (k2 fs hfs).1 e.symm) fun hk => (k3 fs hfs gd hk).1 rfl).trans h.box
  · rw [hlen]
    exact ownsMap_same h.map (hw gm hgmlt (fun e => (k2 fs hfs).2 e.symm) fun hk => (k3 fs hfs gm hk).2.1 rfl)
  · intro t z
    rw [h.keys, hth]
    by_cases e : t = fs.nm
    · rw [if_pos e, e]
    · rw [if_neg e]
  · intro f hf
    by_cases e : f.nm = fs.nm
    · simp only [e, if_true]
      rw [hmem3 f hf e]
      exact hat
    · simp only [if_neg e]
      exact hother f (hmem2 f hf e) e
  · have hnew : ∀ f ∈ d'.fs, f.nm ≠ fs.nm → (E fs.nm).1 ≠ (E f.nm).1 ∧ ∀ k, v'.ownBlock = some k → (E f.nm).2.ownBlock ≠ some k := fun f hf hne => by
      have hf2 := hmem2 f hf hne
      refine ⟨(h.apart fs hfs f hf2 (fun e => hne e.symm)).1, fun k hk hk2 => ?_⟩
      rcases hno k hk with h1 | ⟨_, h1⟩
      · exact (h.apart fs hfs f hf2 (fun e => hne e.symm)).2 k h1 hk2
      · have := (hfilelt f hf2).2 k hk2
        omega
    intro f hf g hg hne
    by_cases e : f.nm = fs.nm
    · have e2 : g.nm ≠ fs.nm := fun e2 => hne (e.trans e2.symm)
      simp only [e, if_true, if_neg e2]
      exact hnew g hg e2
    · by_cases e2 : g.nm = fs.nm
      · simp only [e2, if_true, if_neg e]
        obtain ⟨a1, a2⟩ := hnew f hf e
        exact ⟨a1.symm, fun k hk hk2 => a2 k hk2 hk⟩
      · simp only [if_neg e, if_neg e2]
        exact h.apart f (hmem2 f hf e) g (hmem2 g hg e2) hne
  · refine ⟨hXY _ h.foot.1, hXY _ h.foot.2.1, fun f hf => ?_⟩
    by_cases e : f.nm = fs.nm
    · simp only [e, if_true]
      refine ⟨hXY _ (h.foot.2.2 fs hfs).1, fun k hk => ?_⟩
      rcases hno k hk with h1 | ⟨h1, _⟩
      · exact hXY k ((h.foot.2.2 fs hfs).2 k h1)
      · exact h1
    · simp only [if_neg e]
      exact ⟨hXY _ (h.foot.2.2 f (hmem2 f hf e)).1, fun k hk => hXY k ((h.foot.2.2 f (hmem2 f hf e)).2 k hk)⟩
end
end Go.Proofs.YtgakcaobalfpjaaGreatDoor.M

/- Part: DiskMap2. -/
namespace Go.Proofs.YtgakcaobalfpjaaGreatDoor.M
open Go.RowKit Go.Maps
open D (Fl Dk)

theorem ownsMap_exact {w : World} {gm n : Nat} {M : DataW Nat} (h : w.ownsMap Tryz.prog 9 ptrElem gm n M) : w.ownsMap Tryz.prog 9 ptrElem gm (Maps.size M) M := by
  obtain ⟨es, clock, hb, F, hs, hD⟩ := h
  exact ⟨es, clock, hb, F, by rw [hD]; simp [Maps.size, length_sorted], hD⟩

theorem key_ne {s t : ByteArray} (h : t ≠ s) : Lit.string t.data.toList ≠ Lit.string s.data.toList := fun e => h (D.nm_ext (by rw [D.toList_data, D.toList_data]; exact Lit.string.inj e))

section
variable {w : World} {X : Nat → Prop} {gd gm : Nat} {d : Dk} {fr : Int} {M : DataW Nat} {E : ByteArray → Nat × Value}

theorem PDAt.isMap (h : PDAt w X gd d fr gm M E) : Maps.Tidy M := h.map.tidy law9

theorem PDAt.has (h : PDAt w X gd d fr gm M E) (s : ByteArray) : Maps.has M (.string s.data.toList) = D.isThere d.fs s := by
  cases ht : D.isThere d.fs s with
  | true => exact has_true_of_atKey (y := .held (E s).1) fun z => by rw [h.keys, ht]; rfl
  | false => exact has_false_of_atKey fun z => by rw [h.keys, ht]; rfl

/-- A file less. -/
theorem PDAt.dropped (h : PDAt w X gd d fr gm M E) (hr : D.Rising d.fs) {s : ByteArray} (hs : D.isThere d.fs s = true) {d' : Dk} {fr' : Int} {n : Nat} {w' : World} (hfs : d'.fs = d.fs.eraseIdx (D.find d.fs s))
    (hm : w'.ownsMap Tryz.prog 9 ptrElem gm n (M.del (.string s.data.toList))) (hb : w'.heap[gd]? = some (.cells #[.int .i64 fr', .int .i64 (restOf d'), .map (some gm)] 93))
    (hw : ∀ k, k ≠ gd → k ≠ gm → w'.heap[k]? = w.heap[k]?) : PDAt w' X gd d' fr' gm (M.del (.string s.data.toList)) E := by
  obtain ⟨k1, k2, k3⟩ := h.kinds
  have hmem : ∀ f, f ∈ d'.fs ↔ f ∈ d.fs ∧ f.nm ≠ s := fun f => by rw [hfs]; exact D.mem_erase hr
  have hsz : Maps.size (M.del (.string s.data.toList)) = d'.fs.length := by
    have h1 := size_del (k := .string s.data.toList) h.isMap
    rw [h.has, hs, h.size] at h1
    have h2 := D.find_lt hs
    rw [hfs, List.length_eraseIdx, if_pos h2]
    simp at h1
    omega
  refine ⟨hb, by rw [← hsz]; exact ownsMap_exact hm, fun t z => ?_, hsz, fun f hf => ?_, fun f hf g hg => h.apart f ((hmem f).1 hf).1 g ((hmem g).1 hg).1, h.foot.1, h.foot.2.1, fun f hf => h.foot.2.2 f ((hmem f).1 hf).1⟩
  · by_cases e : t = s
    · subst e
      rw [atKey_del_same]
      rw [D.isThere_not.2 fun f hf => ((hmem f).1 hf).2]
      rfl
    · rw [atKey_del_other (key_ne e), h.keys]
      have : D.isThere d'.fs t = D.isThere d.fs t := by
        rw [Bool.eq_iff_iff, D.isThere_mem, D.isThere_mem]
        constructor
        · rintro ⟨f, hf, hft⟩; exact ⟨f, ((hmem f).1 hf).1, hft⟩
        · rintro ⟨f, hf, hft⟩; exact ⟨f, (hmem f).2 ⟨hf, by rw [hft]; exact e⟩, hft⟩
      rw [this]
  · have hf2 := ((hmem f).1 hf).1
    exact (h.each f hf2).same (hw _ (k2 f hf2).1 (k2 f hf2).2) fun k hk => hw k (k3 f hf2 k hk).1 (k3 f hf2 k hk).2.1

/-- A file more. -/
theorem PDAt.added (h : PDAt w X gd d fr gm M E) {x : Fl} (hs : D.isThere d.fs x.nm = false) {d' : Dk} {fr' : Int} {n b : Nat} {v : Value} {w' : World} {Y : Nat → Prop} (hfs : d'.fs = D.add d.fs x) (hXY : ∀ k, X k → Y k)
    (hm : w'.ownsMap Tryz.prog 9 ptrElem gm n (M.put (.string x.nm.data.toList) (.held b))) (hb : w'.heap[gd]? = some (.cells #[.int .i64 fr', .int .i64 (restOf d'), .map (some gm)] 93))
    (hat : FileAt w' b v x) (hY : Y b ∧ ∀ k, v.ownBlock = some k → Y k) (hnew : ∀ f ∈ d.fs, b ≠ (E f.nm).1 ∧ ∀ k, v.ownBlock = some k → (E f.nm).2.ownBlock ≠ some k)
    (hw : ∀ k, X k → k ≠ gd → k ≠ gm → w'.heap[k]? = w.heap[k]?) : PDAt w' Y gd d' fr' gm (M.put (.string x.nm.data.toList) (.held b)) (fun t => if t = x.nm then (b, v) else E t) := by
  obtain ⟨k1, k2, k3⟩ := h.kinds
  have hmem : ∀ f, f ∈ d'.fs ↔ f = x ∨ f ∈ d.fs := fun f => by rw [hfs]; exact D.mem_add
  have hne : ∀ f ∈ d.fs, f.nm ≠ x.nm := D.isThere_not.1 hs
  have hsz : Maps.size (M.put (.string x.nm.data.toList) (.held b)) = d'.fs.length := by
    rw [size_put h.isMap, h.has, hs, h.size, hfs, D.length_add]; rfl
  have hE : ∀ f ∈ d.fs, (if f.nm = x.nm then (b, v) else E f.nm) = E f.nm := fun f hf => if_neg (hne f hf)
  have hold : ∀ f ∈ d.fs, FileAt w' (E f.nm).1 (E f.nm).2 f := fun f hf => (h.each f hf).same (hw _ (h.foot.2.2 f hf).1 (k2 f hf).1 (k2 f hf).2) fun k hk => hw k ((h.foot.2.2 f hf).2 k hk) (k3 f hf k hk).1 (k3 f hf k hk).2.1
  refine ⟨hb, by rw [← hsz]; exact ownsMap_exact hm, fun t z => ?_, hsz, fun f hf => ?_, fun f hf g hg hfg => ?_, hXY _ h.foot.1, hXY _ h.foot.2.1, fun f hf => ?_⟩
  · by_cases e : t = x.nm
    · subst e
      rw [atKey_put_same h.isMap.isMap (show WideAt.IsKeyLit (.string x.nm.data.toList) from trivial), D.isThere_mem.2 ⟨x, (hmem x).2 (.inl rfl), rfl⟩]
      simp
    · rw [atKey_put_other (key_ne e), h.keys]
      have : D.isThere d'.fs t = D.isThere d.fs t := by
        rw [Bool.eq_iff_iff, D.isThere_mem, D.isThere_mem]
        constructor
        · rintro ⟨f, hf, hft⟩
          rcases (hmem f).1 hf with rfl | h1
          · exact absurd hft.symm e
          · exact ⟨f, h1, hft⟩
        · rintro ⟨f, hf, hft⟩; exact ⟨f, (hmem f).2 (.inr hf), hft⟩
      rw [this, if_neg e]
  · rcases (hmem f).1 hf with rfl | h1
    · simp only [if_true]; exact hat
    · simp only [hE f h1]; exact hold f h1
  · rcases (hmem f).1 hf with rfl | h1
    · rcases (hmem g).1 hg with rfl | h2
      · exact absurd rfl hfg
      · simp only [if_true, hE g h2]
        exact hnew g h2
    · rcases (hmem g).1 hg with rfl | h2
      · simp only [if_true, hE f h1]
        obtain ⟨a1, a2⟩ := hnew f h1
        exact ⟨a1.symm, fun k hk hk2 => a2 k hk2 hk⟩
      · simp only [hE f h1, hE g h2]
        exact h.apart f h1 g h2 hfg
  · rcases (hmem f).1 hf with rfl | h1
    · simp only [if_true]; exact hY
    · simp only [hE f h1]
      exact ⟨hXY _ (h.foot.2.2 f h1).1, fun k hk => hXY k ((h.foot.2.2 f h1).2 k hk)⟩
end

/-- What a call of the program's disk leaves. -/
def PPost (w : World) (X : Nat → Prop) (gd : Nat) (r : Int × Dk) (e : Ending) (w' : World) : Prop :=
  e = .returned (.int .i64 r.1) ∧ Only X w w' ∧ PDsk w' (More X w w') gd r.2

/-- What a disk is good for, ahead of a call. -/
def Good (d : Dk) : Prop := Fine d ∧ D.Rising d.fs ∧ ∀ f ∈ d.fs, f.safe ≤ f.b.length
end Go.Proofs.YtgakcaobalfpjaaGreatDoor.M
