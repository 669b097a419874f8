/- The reader of package mould: rows; so every shape is read as takeV reads it. Take of package mould. Numbers and their forms: there and back. -/
import Derived.Test.YtbcpcopapbgcdaaGreatDoorSW7
/- Part: MouldTake6. -/
namespace Go.Proofs.YtbcpcopapbgcdaaGreatDoor.M
open Go.RowKit

set_option maxRecDepth 20000 in
set_option maxHeartbeats 3200000 in
theorem row_any {l : List Sh} (ih : ∀ s ∈ l, KindSaid 165 s) : KindSaid 204 (.row l) := by
  intro rb F G L v pu w hr hv hs hF hG hL hss
  have hll := ssizes_length l
  have hlen : l.length ≤ 64 := by simp only [ssize] at hss; omega
  have HSS : Hid (∀ s ∈ l, ssize s ≤ 64) := Lib.hid fun s hs => by
    have := ssizes_mem l s hs
    simp only [ssize] at hss
    omega
  clear hss hll
  obtain ⟨pa, pc, rfl, hps⟩ := hs.row
  have hrb := lt_of_heap hr
  obtain ⟨iv, hiv, hiv0, hiv1, hiv2⟩ := info_parts infoVal
  have hgath : Gather w rb F (.cells #[.int .u8 91, .slice pa l.length pc, .bool (solids l)] 194) (.cells #[.int .u64 0, .slice none 0 0, .slice none 0 0] 132) [] none 0 0 L
      ((w.alloc (.cells #[.int .u8 91, .slice pa l.length pc, .bool (solids l)] 194)).alloc (.cells #[.int .u64 0, .slice none 0 0, .slice none 0 0] 132)) :=
    ⟨gb_alloc _ (gb_alloc _ (gb_refl _ _)), old_alloc (heap_new _ _ _ rfl), heap_new _ _ _ (by simp), ⟨v, (boxes2 _ _ hr hv hF).1, (boxes2 _ _ hr hv hF).2⟩, [], World.ownsRow_nil _ _ _ _, rfl⟩
  have HT3 : Hid (takeV (.row l) L = match takeVs l L with | .error e => .error e | .ok (l, r') => .ok (.mk 0 [] l, r')) := Lib.hid (by rw [takeV]; rfl)
  have HGA := Lib.hid hgath
  have HF := Lib.hid hF
  have HG := Lib.hid hG
  have HP := Lib.hid hps
  have HIH := Lib.hid ih
  clear hr hv hF hG hs hps ih hgath
  go_enter Tryz.func204, Tryz.ntmps204
  go_wp2_with fail
  go_loopw [6, 14] (fun vs i wr => ∃ (k : Nat) (ds : List V) (va : Option Addr) (vn vc : Nat) (lk : List UInt8), vs = .slice va vn vc ∧ i = .int .i64 (k : Int) ∧ k ≤ l.length ∧ ds.length = k ∧ lk.length ≤ L.length ∧
      takeVs l L = catV ds (takeVs (l.drop k) lk) ∧
      Gather w rb F (.cells #[.int .u8 91, .slice pa l.length pc, .bool (solids l)] 194) (.cells #[.int .u64 0, .slice none 0 0, .slice none 0 0] 132) ds va vn vc lk wr) (fun _ i _ => l.length - (intOf i).toNat)
  case atStart => exact ⟨0, [], none, 0, 0, L, rfl, rfl, by omega, rfl, Nat.le_refl _, catV_nil _, HGA.out⟩
  case round =>
    obtain ⟨k, ds, va, vn, vc, lk, rfl, rfl, hk, hds, hlk, hspec, hga⟩ := hrel
    have HSP := Lib.hid hspec
    have HGA2 := Lib.hid hga
    have HDS := Lib.hid hds
    have hb1 := hga.box1
    have hb2 := hga.box2
    have hgr := hga.grown
    obtain ⟨vl, hrl1, hvl1⟩ := hga.left
    obtain ⟨c0, c1, c2, -, -, -, hz1⟩ := block3 hb1
    obtain ⟨d0, d1, d2, g0, g1, g2, hz⟩ := block3 hb2
    by_cases hkn : k < l.length
    · obtain ⟨pb, poff, rfl, hFp, pu, hpat, hpu⟩ := HP.out k hkn
      obtain ⟨psa, psn, psc, rfl⟩ := hpu.agg
      have hpb3 : wr.heap[pb]? = w.heap[pb]? := hgr.block pb (HG.out pb hFp).1 (by have := (HG.out pb hFp).2; simpa using this)
      obtain ⟨x, y, z, hxyz, p0, p1, p2⟩ := hpat.same (w' := wr) hpb3
      cases hxyz
      have hrbz := lt_of_heap hrl1
      have HDR : Hid (l.drop k = l[k] :: l.drop (k + 1)) := Lib.hid (List.drop_eq_getElem_cons hkn)
      have HC := Lib.hid (fun o => HIH.out l[k] (List.getElem_mem hkn) rb F G lk vl _ (wr.alloc o) (old_alloc hrl1) (hvl1.same (fun _ h => h) fun b hb => Below.heap_alloc _ _ _ (Nat.lt_of_lt_of_le (HF.out b hb).1 hgr.size))
        (hpu.same (fun _ h => h) fun b hb => by rw [Below.heap_alloc _ _ _ (Nat.lt_of_lt_of_le (HG.out b hb).1 hgr.size)]; exact hgr.block b (HG.out b hb).1 (by have := (HG.out b hb).2; simpa using this))
        (fun b hb => ⟨by have := Nat.lt_of_lt_of_le (HF.out b hb).1 hgr.size; simp; omega, (HF.out b hb).2⟩) (fun b hb => ⟨by have := Nat.lt_of_lt_of_le (HG.out b hb).1 hgr.size; simp; omega, (HG.out b hb).2⟩) (by omega) (HSS.out _ (List.getElem_mem hkn)))
      have HVL1 : Hid (RepB wr F lk vl) := Lib.hid hvl1
      have HRL1 : Hid (ReadAt wr rb vl) := Lib.hid hrl1
      have hgrz := hgr.size
      clear hspec hga hb1 hb2 hrl1 hvl1 hpb3 hds hgr hpat hpu
      go_wp2_with fail
      refine (HC.out _).mono ?_
      intro e w2 hp
      have hfair := fair_take l[k] lk
      cases hq : takeV l[k] lk with
      | error c =>
        rw [hq] at hp hfair
        obtain ⟨rfl, hg2⟩ := hp
        have hc0 : (c != 0) = true := by rcases hfair with rfl | rfl <;> rfl
        have HQ2 := Lib.hid hq
        have hg3 := gb_trans (gb_alloc _ (gb_refl wr _)) hg2
        have hb2 := (hg3.block _ hz (by simp; omega)).trans HGA2.out.box2
        obtain ⟨d0, d1, d2, g0, g1, g2, hz⟩ := block3 hb2
        have HG2 := Lib.hid hg3
        clear hq hg2 hg3 hb2 hfair
        go_wp2_with fail
        refine bodyPost_ret (v := .tuple #[.agg #[.int .u64 0, .slice none 0 0, .slice none 0 0], .int .i64 c]) (by simp [results, Tryz.results204, go_sem, d0, d1, d2, hz]) rfl ?_
        rw [HT3.out, HSP.out, HDR.out, catR_fails HQ2.out]
        exact ⟨rfl, gb_alloc _ (gb_new _ (by omega) (gb_new _ (by omega) (gb_new _ (by omega) (gb_trans HGA2.out.grown HG2.out))))⟩
      | ok x =>
        obtain ⟨d, l1⟩ := x
        rw [hq] at hp hfair
        obtain ⟨u, v2, rfl, hg2, hr2, hv2, hu⟩ := hp
        have hl1 : l1.length ≤ lk.length := hfair
        have hg3 := gb_trans (gb_alloc _ (gb_refl wr _)) hg2
        have hga3 := HGA2.out.next hrb hg3 hr2 hv2
        have HQ2 := Lib.hid hq
        have HU := Lib.hid hu
        obtain ⟨en, eab, enb, ecb, eal, enl, ecl, rfl⟩ := hu.form
        obtain ⟨xs, hown, hkids⟩ := hga3.owns
        have hown0 : ∀ j, (Value.slice va vn vc).ownBlock = some j → j < wr.heap.size + 1 := fun j hj => by
          obtain ⟨xs0, hown0, _⟩ := HGA2.out.owns
          have := (hown0.lt j hj).2
          omega
        have HO0 := Lib.hid hown0
        have HKI := Lib.hid hkids
        have HG3 := Lib.hid hga3
        have hzz := hg3.size
        rw [HDS.out] at hown
        clear hq hg2 hg3 hfair hr2 hv2 hu hga3 hkids hown0
        go_wp2_with (at_builtin; refine wpList_append_own2 _ rfl (.tmp 28) (.tmp 30) 130 rfl (w.heap.size + 2) 132 iv (.agg #[.int .u64 0, .slice none 0 0, .slice none 0 0]) 3 56 Tryz.underlying130 hiv hiv0 hiv1 hiv2 rfl (by decide) _ _ _ rfl ((hown.alloc _).alloc _) ⟨w2.heap.size + 1, 0, none⟩ 1 1 [.int .u64 en, .slice eab enb ecb, .slice eal enl ecl] rfl rfl ?c1 ?c2 ?c3 ?c4 ?c5 ?_)
        case c1 => exact three_new (by simp)
        case c2 => intro u hu; simp at hu; rcases hu with rfl | rfl | rfl <;> rfl
        case c3 => unfold maxLen; omega
        case c4 => omega
        case c5 => simp; omega
        intro v' w4 hown2 hg4 _ hwhere
        obtain ⟨a', c', hv'⟩ := owned_slice hown2
        subst hv'
        have hga4 := HG3.out.push (o3 := .cells #[.int .u64 en, .slice eab enb ecb, .slice eal enl ecl] 132) (o4 := .cells #[.int .u64 en, .slice eab enb ecb, .slice eal enl ecl] 132) hrb HF.out HU.out (by simp; omega) (by rw [HDS.out]; exact hown) HKI.out (by simpa using HO0.out) hown2 (by rw [HDS.out]) hg4 (by simpa using hwhere)
        have HG4 := Lib.hid hga4
        have HLEN : Hid ((ds ++ [d]).length = k + 1) := Lib.hid (by rw [List.length_append, HDS.out]; rfl)
        clear hown hown2 hg4 hwhere hga4
        go_wp2_with fail
        go_roundw
        case rel =>
          refine ⟨k + 1, ds ++ [d], a', k + 1, c', l1, rfl, by go_num, by omega, HLEN.out, by omega, ?_, HG4.out⟩
          rw [HSP.out, HDR.out, catR_step HQ2.out]
        case measure => simp [intOf]; omega
    · have HK : Hid (l.drop k = []) := Lib.hid (List.drop_of_length_le (by omega))
      clear hspec hga hb1 hb2 hrl1 hvl1 hds hgr
      go_wp2_with fail
      refine bodyPost_ret (v := .tuple #[.agg #[.int .u64 0, .slice none 0 0, .slice va vn vc], .int .i64 0]) (by simp [results, Tryz.results204, go_sem, d0, d1, d2]) rfl ?_
      rw [HT3.out, HSP.out, HK.out, catR_ends]
      exact HGA2.out.done hrb HF.out _ _ _

mutual
theorem value_any : ∀ s, KindSaid 165 s
  | .num => value_of number_any
  | .blob => value_of blob_any
  | .list s => value_of (list_any (value_any s))
  | .row l => value_of (row_any (values_any l))
theorem values_any : ∀ (l : List Sh), ∀ s ∈ l, KindSaid 165 s
  | [], s, h => by simp at h
  | t :: l, s, h => by
    rcases List.mem_cons.1 h with h | h
    · rw [h]; exact value_any t
    · exact values_any l s h
end
end Go.Proofs.YtbcpcopapbgcdaaGreatDoor.M

/- Part: MouldTake. -/
namespace Go.Proofs.YtbcpcopapbgcdaaGreatDoor.M
open Go.RowKit

/-- What Take answers: an error's number, or the value. -/
def takeAt (s : List UInt8) (L : List UInt8) : Except Int V :=
  match shape s with
  | none => .error 10
  | some sh => match takeV sh L with
    | .error c => .error c
    | .ok (d, l) => if l.isEmpty then .ok d else .error 12

def TakePost (w : World) (r : Except Int V) (e : Ending) (w' : World) : Prop :=
  Below w.heap.size w w' ∧ match r with
  | .error c => e = .returned (.tuple #[.agg #[.int .u64 0, .slice none 0 0, .slice none 0 0], .int .i64 c])
  | .ok d => ∃ u, e = .returned (.tuple #[u, .int .i64 0]) ∧ RepV w' (fun b => w.heap.size ≤ b ∧ b < w'.heap.size) d u

theorem below_of_grown {w w0 w1 : World} {rb : Nat} (h0 : Below w.heap.size w w0) (hg : w0.grownBy w1 (some rb)) (hrb : w.heap.size ≤ rb) : Below w.heap.size w w1 :=
  ⟨hg.os.trans h0.os, hg.tape.trans h0.tape, hg.output.trans h0.output, Nat.le_trans h0.size hg.size, fun k hk => (hg.block k (Nat.lt_of_lt_of_le hk h0.size) (by simp; omega)).trans (h0.block k hk)⟩

set_option maxRecDepth 20000 in
set_option maxHeartbeats 1600000 in
theorem Take_any (s : ByteArray) (L : List UInt8) (F : Nat → Prop) (v : Value) (w : World) (hs : s.size ≤ 9223372036854775807) (hv : RepB w F L v) (hF : ∀ b, F b → b < w.heap.size) (hL : L.length ≤ 1099511627776) :
    Calls Tryz.prog 129 #[.string s, v] w (TakePost w (takeAt s.data.toList L)) := by
  have HV := Lib.hid hv
  have HF := Lib.hid hF
  obtain ⟨va, vc, rfl, _⟩ := hv.slice
  clear hv hF
  go_enter Tryz.func129, Tryz.ntmps129
  go_wp2_with fail
  refine (parse_any s _ hs).mono ?_
  rintro e w1 ⟨hb, hr⟩
  obtain ⟨c0, c1, c2, f0, f1, f2, hz⟩ := three_kept hb
  have hbox := old_below (heap_new w (.cells #[.int .u64 0, .slice none 0 0, .slice none 0 0] 132) _ rfl) hb
  have hB1 : Below w.heap.size w w1 := (below_alloc _ _).trans (hb.mono (by simp))
  have HBOX := Lib.hid hbox
  have HB1 := Lib.hid hB1
  have hsz := hb.size
  simp only [World.size_alloc] at hsz
  cases hq : shape s.data.toList with
  | none =>
    rw [hq] at hr
    subst hr
    have HQ : Hid (takeAt s.data.toList L = .error 10) := Lib.hid (by unfold takeAt; rw [hq])
    clear hq hb hbox hB1
    go_wp2_with fail
    refine bodyPost_ret (v := .tuple #[.agg #[.int .u64 0, .slice none 0 0, .slice none 0 0], .int .i64 10]) (by simp [results, Tryz.results129, go_sem, c0, c1, c2, hz]) rfl ?_
    rw [HQ.out]
    exact ⟨(((HB1.out.setCell (by simp) _).setCell (by simp) _).setCell (by simp) _).alloc (by simp; omega) _, rfl⟩
  | some sh =>
    rw [hq] at hr
    obtain ⟨u, rfl, hu⟩ := hr
    have HQ : Hid (takeAt s.data.toList L = match takeV sh L with | .error c => .error c | .ok (d, l) => if l.isEmpty then .ok d else .error 12) := Lib.hid (by unfold takeAt; rw [hq])
    have HSZ := Lib.hid (shape_size hq)
    obtain ⟨pa, pn, pc, rfl⟩ := hu.agg
    have hcall : ∀ o, Calls Tryz.prog 165 #[.pointer (some ⟨w1.heap.size + 1, 0, none⟩), .agg #[.int .u8 (kind sh), .slice pa pn pc, .bool (solid sh)]]
        ((w1.alloc o).alloc (.cells #[.slice va L.length vc] 213)) (ReadPost ((w1.alloc o).alloc (.cells #[.slice va L.length vc] 213)) (w1.heap.size + 1) F (takeV sh L)) := fun o =>
      value_any sh (w1.heap.size + 1) F (fun b => w.heap.size + 1 ≤ b ∧ b < w1.heap.size) L _ _ _ (heap_new _ _ _ (by simp))
        (HV.out.same (fun _ h => h) fun b hb2 => by
          have := HF.out b hb2
          rw [Below.heap_alloc _ _ _ (by simp; omega), Below.heap_alloc _ _ _ (by omega)]
          exact hB1.block b this)
        (hu.same (fun b hb2 => by simpa using hb2) fun b hb2 => by
          simp at hb2
          rw [Below.heap_alloc _ _ _ (by simp; omega), Below.heap_alloc _ _ _ hb2.2])
        (fun b hb2 => by have := HF.out b hb2; simp; omega) (fun b hb2 => by simp; omega) hL HSZ.out
    have HC := Lib.hid hcall
    clear hq hb hbox hB1 hu hcall
    go_wp2_with fail
    refine (HC.out _).mono ?_
    intro e w2 hp
    obtain ⟨n, ab, nb, cb, al, nl, cl, c, he, hg⟩ := hp.form
    have hB2 : Below w.heap.size w w2 := below_of_grown ((HB1.out.alloc (by omega) _).alloc (by simp; omega) _) hg (by omega)
    have hbox2 : w2.heap[w.heap.size]? = _ := (hg.block w.heap.size (by simp; omega) (by simp; omega)).trans (old_alloc (old_alloc HBOX.out))
    obtain ⟨c0, c1, c2, f0, f1, f2, hz⟩ := block3 hbox2
    have hgz := hg.size
    simp only [World.size_alloc] at hgz
    have HB2 := Lib.hid hB2
    have hfair := fair_take sh L
    cases hq2 : takeV sh L with
    | error c =>
      rw [hq2] at hp hfair
      obtain ⟨rfl, hg2⟩ := hp
      have hc0 : (c != 0) = true := by rcases hfair with rfl | rfl <;> rfl
      have HQ2 := Lib.hid hq2
      clear hq2 hg hg2 hB2 hbox2 hfair he
      go_wp2_with fail
      refine bodyPost_ret (v := .tuple #[.agg #[.int .u64 0, .slice none 0 0, .slice none 0 0], .int .i64 c]) (by simp [results, Tryz.results129, go_sem, c0, c1, c2, hz]) rfl ?_
      rw [HQ.out, HQ2.out]
      exact ⟨(((HB2.out.setCell (by simp) _).setCell (by simp) _).setCell (by simp) _).alloc (by simp; omega) _, rfl⟩
    | ok x =>
      obtain ⟨d, l1⟩ := x
      rw [hq2] at hp
      obtain ⟨u, v2, rfl, hg2, hr2, hv2, hu⟩ := hp
      obtain ⟨en, eab, enb, ecb, eal, enl, ecl, rfl⟩ := hu.form
      obtain ⟨la, lc, rfl, hll⟩ := hv2.slice
      obtain ⟨r0, -, hrz⟩ := block1 hr2
      have HQ2 := Lib.hid hq2
      have HU := Lib.hid hu
      clear hq2 hg hg2 hB2 hbox2 hfair he hu hv2 hr2
      cases l1 with
      | nil =>
        simp only [List.length_nil] at r0
        go_wp2_with fail
        refine bodyPost_ret (v := .tuple #[.agg #[.int .u64 en, .slice eab enb ecb, .slice eal enl ecl], .int .i64 0]) (by simp [results, Tryz.results129, go_sem, c0, c1, c2, hz]) rfl ?_
        rw [HQ.out, HQ2.out]
        refine ⟨(((HB2.out.setCell (by simp) _).setCell (by simp) _).setCell (by simp) _).alloc (by simp; omega) _, _, rfl, HU.out.same (fun b hb2 => ?_) fun b hb2 => ?_⟩
        · simp at hb2 ⊢; omega
        · simp only [World.size_alloc] at hb2
          rw [Below.heap_alloc _ _ _ (by simp; omega)]
          simp (disch := (simp; omega)) only [Below.heap_setCell]
      | cons x l2 =>
        simp only [List.length_cons] at r0 hll
        go_wp2_with fail
        refine bodyPost_ret (v := .tuple #[.agg #[.int .u64 0, .slice none 0 0, .slice none 0 0], .int .i64 12]) (by simp [results, Tryz.results129, go_sem, c0, c1, c2, hz]) rfl ?_
        rw [HQ.out, HQ2.out]
        exact ⟨(((HB2.out.setCell (by simp) _).setCell (by simp) _).setCell (by simp) _).alloc (by simp; omega) _, rfl⟩
end Go.Proofs.YtbcpcopapbgcdaaGreatDoor.M

/- Part: MouldPure. -/
namespace Go.Proofs.YtbcpcopapbgcdaaGreatDoor.M
open Go.RowKit

theorem fold_dig : ∀ (k n : Nat), n < 256 ^ k → fold256 (dig k n) = n
  | 0, n, h => by
    obtain rfl : n = 0 := by simpa using h
    rfl
  | k + 1, n, h => by
    rw [dig]
    by_cases h0 : n = 0
    · rw [if_pos h0, h0]; rfl
    · rw [if_neg h0, fold256_snoc, fold_dig k (n / 256) (by rw [Nat.div_lt_iff_lt_mul (by omega), ← Nat.pow_succ]; exact h), UInt8.toNat_ofNat_of_lt' (by show _ < 256; omega)]
      omega

theorem dig_head : ∀ (k n : Nat), n < 256 ^ k → (dig k n).head? ≠ some 0
  | 0, n, h => by simp [dig]
  | k + 1, n, h => by
    rw [dig]
    by_cases h0 : n = 0
    · rw [if_pos h0]; simp
    · rw [if_neg h0]
      by_cases h1 : n / 256 = 0
      · rw [h1, dig_zero']
        simp only [List.nil_append, List.head?_cons, ne_eq, Option.some.injEq]
        intro h2
        have := congrArg UInt8.toNat h2
        rw [UInt8.toNat_ofNat_of_lt' (by show _ < 256; omega)] at this
        simp at this
        omega
      · have h2 := dig_head k (n / 256) (by rw [Nat.div_lt_iff_lt_mul (by omega), ← Nat.pow_succ]; exact h)
        have h3 : dig k (n / 256) ≠ [] := by
          cases k with
          | zero => simp at h; omega
          | succ k => rw [dig, if_neg h1]; simp
        cases hd : dig k (n / 256) with
        | nil => exact absurd hd h3
        | cons c t => rw [hd] at h2; simpa using h2
where
  dig_zero' {k : Nat} : dig k 0 = [] := by cases k <;> simp [dig]

theorem num_len8 (n : Nat) : (UInt8.ofNat (dig 8 n).length).toNat = (dig 8 n).length := by
  have := dig_fuel 8 n
  exact UInt8.toNat_ofNat_of_lt' (by show _ < 256; omega)

/-- A number's form is read back. -/
theorem take_num (n : Nat) (r : List UInt8) (h : n < 18446744073709551616) : takeNum (num n ++ r) = .ok (n, r) := by
  have h8 := dig_fuel 8 n
  have hl := num_len8 n
  have hh := dig_head 8 n (by omega)
  have hf := fold_dig 8 n (by omega)
  rw [num, List.cons_append, takeNum, hl, if_neg (by omega)]
  rw [if_neg, if_neg (by simp), List.take_left, List.drop_left]
  · exact congrArg (fun x => Except.ok (x, r)) hf
  · rintro ⟨h0, h1⟩
    cases hd : dig 8 n with
    | nil => rw [hd] at h0; simp at h0
    | cons c t => rw [hd] at h1 hh; simp at h1 hh; exact hh h1

theorem put_num (n : Nat) : putAll [110] [.mk n [] []] = .ok (num n) := by
  unfold putAll
  rw [show shape [110] = some .num from by kernel_rfl]
  simp [isV, putV, V.n]

theorem takeAt_num (n : Nat) (h : n < 18446744073709551616) : takeAt [110] (num n) = .ok (.mk n [] []) := by
  unfold takeAt
  rw [show shape [110] = some .num from by kernel_rfl]
  have := take_num n [] h
  rw [List.append_nil] at this
  simp [takeV, this]

theorem takeAt_long (n : Nat) : takeAt [110] ([UInt8.ofNat ((dig 8 n).length + 1), 0] ++ dig 8 n) = .error 13 := by
  have h8 := dig_fuel 8 n
  unfold takeAt
  rw [show shape [110] = some .num from by kernel_rfl]
  have hl : (UInt8.ofNat ((dig 8 n).length + 1)).toNat = (dig 8 n).length + 1 := UInt8.toNat_ofNat_of_lt' (by show _ < 256; omega)
  have : takeNum ([UInt8.ofNat ((dig 8 n).length + 1), 0] ++ dig 8 n) = .error 13 := by
    rw [List.cons_append, takeNum, hl]
    split
    · rfl
    · rw [if_pos ⟨by omega, by simp⟩]
  simp only [takeV, this]

theorem blen_mono {a b : Nat} (h : a ≤ b) : blen a ≤ blen b := by
  rw [blen_le]
  have := (blen_le b (blen b)).1 (Nat.le_refl _)
  omega

theorem num_longer {a b : Nat} (ha : a < 18446744073709551616) (hb : b < 18446744073709551616) (h : (num a).length < (num b).length) : a < b := by
  rcases Nat.lt_or_ge a b with h1 | h1
  · exact h1
  · have := blen_mono h1
    simp only [num, List.length_cons, dig_length 8 a (by omega), dig_length 8 b (by omega)] at h
    omega
end Go.Proofs.YtbcpcopapbgcdaaGreatDoor.M
