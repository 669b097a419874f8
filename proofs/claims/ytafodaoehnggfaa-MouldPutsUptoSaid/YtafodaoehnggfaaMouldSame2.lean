/- Same of package mould. -/
import Derived.Test.YtafodaoehnggfaaMouldSame
namespace Go.Proofs.Ytafodaoehnggfaa.M
open Go.RowKit

/-- One value in a new block, as a slice of one. -/
theorem RepVl.one {w w1 : World} {F G : Nat → Prop} {d : V} {x y z : Value} {g : Nat} {t : TypeId} (h : RepV w F d (.agg #[x, y, z])) (hb : w1.heap[g]? = some (.cells #[x, y, z] t))
    (hw : ∀ b, F b → w1.heap[b]? = w.heap[b]?) (hF : ∀ b, F b → G b) (hg : G g) : RepVl w1 G [d] (.slice (some ⟨g, 0, none⟩) 1 1) := by
  obtain ⟨c0, c1, c2, -, -, -, -⟩ := block3 hb
  refine .inr ⟨g, 0, 1, rfl, hg, by simp, by omega, ?_⟩
  unfold RepVs RepVs
  exact ⟨⟨_, ⟨x, y, z, rfl, c0, c1, c2⟩, h.same hF hw⟩, trivial⟩

/-- What Same answers. -/
def same (s : List UInt8) (a b : V) : Bool :=
  match putAll s [a], putAll s [b] with
  | .ok x, .ok y => x == y
  | _, _ => false

theorem PutPost.both {w w' : World} {r : Except Int (List UInt8)} {e : Ending} (h : PutPost w r e w') : ∃ v c, e = .returned (.tuple #[v, .int .i64 c]) ∧ Below w.heap.size w w' ∧
    ((∃ L, r = .ok L ∧ c = 0 ∧ RepB w' (fun b => w.heap.size ≤ b ∧ b < w'.heap.size) L v) ∨ (∃ n, r = .error n ∧ c = n)) := by
  obtain ⟨hb, h⟩ := h
  cases r with
  | error n => exact ⟨_, n, h, hb, .inr ⟨n, rfl, rfl⟩⟩
  | ok L =>
    obtain ⟨v, he, hown⟩ := h
    exact ⟨v, 0, he, hb, .inl ⟨L, rfl, rfl, .of_own hown⟩⟩

theorem putAll_error {s : List UInt8} {l : List V} {n : Int} (h : putAll s l = .error n) : n = 10 ∨ n = 2 := by
  unfold putAll at h
  split at h
  · cases h; exact .inl rfl
  · split at h
    · cases h
    · cases h; exact .inr rfl

set_option maxHeartbeats 1600000 in
theorem Same_any (s : ByteArray) (a b : V) (F : Nat → Prop) (va vb : Value) (w : World) (hs : s.size ≤ 9223372036854775807) (ha : RepV w F a va) (hb : RepV w F b vb) (hF : ∀ b, F b → b < w.heap.size)
    (hla : vsize a ≤ 1099511627776) (hlb : vsize b ≤ 1099511627776) :
    Calls Try.prog 17 #[.string s, va, vb] w fun e w' => e = .returned (.bool (same s.data.toList a b)) ∧ Below w.heap.size w w' := by
  obtain ⟨n1, ab1, nb1, cb1, al1, nl1, cl1, rfl⟩ := ha.form
  obtain ⟨n2, ab2, nb2, cb2, al2, nl2, cl2, rfl⟩ := hb.form
  have HA := Lib.hid ha
  have HB := Lib.hid hb
  have HF := Lib.hid hF
  have HLA : Hid (vsizes [a] ≤ 1099511627776) := Lib.hid (by simpa [vsizes] using hla)
  have HLB : Hid (vsizes [b] ≤ 1099511627776) := Lib.hid (by simpa [vsizes] using hlb)
  clear ha hb hF hla hlb
  go_enter Try.func17, Try.ntmps17
  go_wp2_with fail
  refine (Put_any s [a] (fun k => F k ∨ k = w.heap.size + 2) _ _ hs (RepVl.one HA.out (heap_new _ _ _ (by simp)) (fun b hb => ?_) (fun b hb => .inl hb) (.inr rfl)) (fun b hb => ?_) HLA.out).mono ?_
  · have := HF.out b hb
    rw [Below.heap_alloc _ _ _ (by simp; omega), Below.heap_alloc _ _ _ (by simp; omega), Below.heap_alloc _ _ _ this]
  · rcases hb with hb | rfl
    · have := HF.out b hb
      simp; omega
    · simp
  intro e w1 hp
  obtain ⟨v1, c1, rfl, hB1, hr1⟩ := hp.both
  have hbox : w1.heap[w.heap.size + 1]? = some (.cells #[.int .u64 n2, .slice ab2 nb2 cb2, .slice al2 nl2 cl2] 31) := by
    rw [hB1.block _ (by simp)]
    exact old_alloc (heap_new _ _ _ (by simp))
  obtain ⟨d0, d1, d2, -, -, -, hz1⟩ := block3 hbox
  have hBw : Below w.heap.size w w1 := (((Below.refl _ _).alloc (Nat.le_refl _) _).alloc (by simp) _ |>.alloc (by simp; omega) _).trans (hB1.mono (by simp; omega))
  have hsz1 := hB1.size
  simp only [World.size_alloc] at hsz1
  have HBW := Lib.hid hBw
  have HB1 := Lib.hid hB1
  have HR1 := Lib.hid hr1
  clear hp hbox hB1 hBw hr1
  go_wp2_with fail
  refine (Put_any s [b] (fun k => F k ∨ k = w1.heap.size) _ _ hs (RepVl.one HB.out (heap_new _ _ _ rfl) (fun b hb => ?_) (fun b hb => .inl hb) (.inr rfl)) (fun b hb => ?_) HLB.out).mono ?_
  · have := HF.out b hb
    rw [Below.heap_alloc _ _ _ (by omega), HBW.out.block b this]
  · rcases hb with hb | rfl
    · have := HF.out b hb
      simp; omega
    · simp
  intro e w2 hp
  obtain ⟨v2, c2, rfl, hB2, hr2⟩ := hp.both
  have HB2 : Hid (Below w1.heap.size w1 w2) := Lib.hid ((below_alloc _ _).trans (hB2.mono (by simp)))
  have HFIN : Hid (Below w.heap.size w w2) := Lib.hid (HBW.out.trans (HB2.out.mono (by omega)))
  rcases HR1.out with ⟨L1, hq1, rfl, hv1⟩ | ⟨m1, hq1, rfl⟩
  · rcases hr2 with ⟨L2, hq2, rfl, hv2⟩ | ⟨m2, hq2, rfl⟩
    · have HS : Hid (same s.data.toList a b = (L1 == L2)) := Lib.hid (by unfold same; rw [hq1, hq2])
      have heq := bytes_Equal (fun _ => True) L1 L2 v1 v2 w2 (hv1.same (fun _ _ => trivial) fun b hb => HB2.out.block b hb.2) (hv2.same (fun _ _ => trivial) fun _ _ => rfl)
      have HEQ := Lib.hid heq
      clear hq1 hq2 hv1 hv2 heq hB2 hp
      go_wp2_with fail
      refine HEQ.out.mono ?_
      rintro e w3 ⟨rfl, rfl⟩
      go_wp2_with fail
      go_ret
      exact ⟨by rw [HS.out]; rfl, HFIN.out⟩
    · have HS : Hid (same s.data.toList a b = false) := Lib.hid (by unfold same; rw [hq1, hq2])
      have hm : (c2 == 0) = false := by rcases putAll_error hq2 with rfl | rfl <;> rfl
      clear hq1 hq2 hv1 hB2 hp
      go_wp2_with fail
      go_ret
      exact ⟨by rw [HS.out]; rfl, HFIN.out⟩
  · have HS : Hid (same s.data.toList a b = false) := Lib.hid (by unfold same; rw [hq1])
    have hm : (c1 == 0) = false := by rcases putAll_error hq1 with rfl | rfl <;> rfl
    clear hq1 hr2 hB2 hp
    go_wp2_with fail
    go_ret
    exact ⟨by rw [HS.out]; rfl, HFIN.out⟩
end Go.Proofs.Ytafodaoehnggfaa.M
