/- Take of package mould. -/
import Derived.Test.YtafodaoehnggfaaMouldTake6
namespace Go.Proofs.Ytafodaoehnggfaa.M
open Go.RowKit

/-- What Take answers: an error's number, or the value. -/
def takeAt (s : List UInt8) (L : List UInt8) : Except Int V :=
  match shape s with
  | none => .error 10
  | some sh => match takeV sh L with
    | .error c => .error c
    | .ok (d, l) => if l.isEmpty then .ok d else .error 12

def TakePost (w : World) (r : Except Int V) (e : Ending) (w' : World) : Prop :=
  Below w.heap.size w w' ∧ match r with
  | .error c => e = .returned (.tuple #[.agg #[.int .u64 0, .slice none 0 0, .slice none 0 0], .int .i64 c])
  | .ok d => ∃ u, e = .returned (.tuple #[u, .int .i64 0]) ∧ RepV w' (fun b => w.heap.size ≤ b ∧ b < w'.heap.size) d u

theorem below_of_grown {w w0 w1 : World} {rb : Nat} (h0 : Below w.heap.size w w0) (hg : w0.grownBy w1 (some rb)) (hrb : w.heap.size ≤ rb) : Below w.heap.size w w1 :=
  ⟨hg.os.trans h0.os, hg.tape.trans h0.tape, hg.output.trans h0.output, Nat.le_trans h0.size hg.size, fun k hk => (hg.block k (Nat.lt_of_lt_of_le hk h0.size) (by simp; omega)).trans (h0.block k hk)⟩

set_option maxHeartbeats 1600000 in
theorem Take_any (s : ByteArray) (L : List UInt8) (F : Nat → Prop) (v : Value) (w : World) (hs : s.size ≤ 9223372036854775807) (hv : RepB w F L v) (hF : ∀ b, F b → b < w.heap.size) (hL : L.length ≤ 1099511627776) :
    Calls Try.prog 18 #[.string s, v] w (TakePost w (takeAt s.data.toList L)) := by
  have HV := Lib.hid hv
  have HF := Lib.hid hF
  obtain ⟨va, vc, rfl, _⟩ := hv.slice
  clear hv hF
  go_enter Try.func18, Try.ntmps18
  go_wp2_with fail
  refine (parse_any s _ hs).mono ?_
  rintro e w1 ⟨hb, hr⟩
  obtain ⟨c0, c1, c2, f0, f1, f2, hz⟩ := three_kept hb
  have hbox := old_below (heap_new w (.cells #[.int .u64 0, .slice none 0 0, .slice none 0 0] 31) _ rfl) hb
  have hB1 : Below w.heap.size w w1 := (below_alloc _ _).trans (hb.mono (by simp))
  have HBOX := Lib.hid hbox
  have HB1 := Lib.hid hB1
  have hsz := hb.size
  simp only [World.size_alloc] at hsz
  cases hq : shape s.data.toList with
  | none =>
    rw [hq] at hr
    subst hr
    have HQ : Hid (takeAt s.data.toList L = .error 10) := Lib.hid (by unfold takeAt; rw [hq])
    clear hq hb hbox hB1
    go_wp2_with fail
    refine bodyPost_ret (v := .tuple #[.agg #[.int .u64 0, .slice none 0 0, .slice none 0 0], .int .i64 10]) (by simp [results, Try.results18, go_sem, c0, c1, c2, hz]) rfl ?_
    rw [HQ.out]
    exact ⟨(((HB1.out.setCell (by simp) _).setCell (by simp) _).setCell (by simp) _).alloc (by simp; omega) _, rfl⟩
  | some sh =>
    rw [hq] at hr
    obtain ⟨u, rfl, hu⟩ := hr
    have HQ : Hid (takeAt s.data.toList L = match takeV sh L with | .error c => .error c | .ok (d, l) => if l.isEmpty then .ok d else .error 12) := Lib.hid (by unfold takeAt; rw [hq])
    have HSZ := Lib.hid (shape_size hq)
    obtain ⟨pa, pn, pc, rfl⟩ := hu.agg
    have hcall : ∀ o, Calls Try.prog 30 #[.pointer (some ⟨w1.heap.size + 1, 0, none⟩), .agg #[.int .u8 (kind sh), .slice pa pn pc, .bool (solid sh)]]
        ((w1.alloc o).alloc (.cells #[.slice va L.length vc] 60)) (ReadPost ((w1.alloc o).alloc (.cells #[.slice va L.length vc] 60)) (w1.heap.size + 1) F (takeV sh L)) := fun o =>
      value_any sh (w1.heap.size + 1) F (fun b => w.heap.size + 1 ≤ b ∧ b < w1.heap.size) L _ _ _ (heap_new _ _ _ (by simp))
        (HV.out.same (fun _ h => h) fun b hb2 => by
          have := HF.out b hb2
          rw [Below.heap_alloc _ _ _ (by simp; omega), Below.heap_alloc _ _ _ (by omega)]
          exact hB1.block b this)
        (hu.same (fun b hb2 => by simpa using hb2) fun b hb2 => by
          simp at hb2
          rw [Below.heap_alloc _ _ _ (by simp; omega), Below.heap_alloc _ _ _ hb2.2])
        (fun b hb2 => by have := HF.out b hb2; simp; omega) (fun b hb2 => by simp; omega) hL HSZ.out
    have HC := Lib.hid hcall
    clear hq hb hbox hB1 hu hcall
    go_wp2_with fail
    refine (HC.out _).mono ?_
    intro e w2 hp
    obtain ⟨n, ab, nb, cb, al, nl, cl, c, he, hg⟩ := hp.form
    have hB2 : Below w.heap.size w w2 := below_of_grown ((HB1.out.alloc (by omega) _).alloc (by simp; omega) _) hg (by omega)
    have hbox2 : w2.heap[w.heap.size]? = _ := (hg.block w.heap.size (by simp; omega) (by simp; omega)).trans (old_alloc (old_alloc HBOX.out))
    obtain ⟨c0, c1, c2, f0, f1, f2, hz⟩ := block3 hbox2
    have hgz := hg.size
    simp only [World.size_alloc] at hgz
    have HB2 := Lib.hid hB2
    have hfair := fair_take sh L
    cases hq2 : takeV sh L with
    | error c =>
      rw [hq2] at hp hfair
      obtain ⟨rfl, hg2⟩ := hp
      have hc0 : (c != 0) = true := by rcases hfair with rfl | rfl <;> rfl
      have HQ2 := Lib.hid hq2
      clear hq2 hg hg2 hB2 hbox2 hfair he
      go_wp2_with fail
      refine bodyPost_ret (v := .tuple #[.agg #[.int .u64 0, .slice none 0 0, .slice none 0 0], .int .i64 c]) (by simp [results, Try.results18, go_sem, c0, c1, c2, hz]) rfl ?_
      rw [HQ.out, HQ2.out]
      exact ⟨(((HB2.out.setCell (by simp) _).setCell (by simp) _).setCell (by simp) _).alloc (by simp; omega) _, rfl⟩
    | ok x =>
      obtain ⟨d, l1⟩ := x
      rw [hq2] at hp
      obtain ⟨u, v2, rfl, hg2, hr2, hv2, hu⟩ := hp
      obtain ⟨en, eab, enb, ecb, eal, enl, ecl, rfl⟩ := hu.form
      obtain ⟨la, lc, rfl, hll⟩ := hv2.slice
      obtain ⟨r0, -, hrz⟩ := block1 hr2
      have HQ2 := Lib.hid hq2
      have HU := Lib.hid hu
      clear hq2 hg hg2 hB2 hbox2 hfair he hu hv2 hr2
      cases l1 with
      | nil =>
        simp only [List.length_nil] at r0
        go_wp2_with fail
        refine bodyPost_ret (v := .tuple #[.agg #[.int .u64 en, .slice eab enb ecb, .slice eal enl ecl], .int .i64 0]) (by simp [results, Try.results18, go_sem, c0, c1, c2, hz]) rfl ?_
        rw [HQ.out, HQ2.out]
        refine ⟨(((HB2.out.setCell (by simp) _).setCell (by simp) _).setCell (by simp) _).alloc (by simp; omega) _, _, rfl, HU.out.same (fun b hb2 => ?_) fun b hb2 => ?_⟩
        · simp at hb2 ⊢; omega
        · simp only [World.size_alloc] at hb2
          rw [Below.heap_alloc _ _ _ (by simp; omega)]
          simp (disch := (simp; omega)) only [Below.heap_setCell]
      | cons x l2 =>
        simp only [List.length_cons] at r0 hll
        go_wp2_with fail
        refine bodyPost_ret (v := .tuple #[.agg #[.int .u64 0, .slice none 0 0, .slice none 0 0], .int .i64 12]) (by simp [results, Try.results18, go_sem, c0, c1, c2, hz]) rfl ?_
        rw [HQ.out, HQ2.out]
        exact ⟨(((HB2.out.setCell (by simp) _).setCell (by simp) _).setCell (by simp) _).alloc (by simp; omega) _, rfl⟩
end Go.Proofs.Ytafodaoehnggfaa.M
