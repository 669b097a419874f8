/- The reader of package mould: numbers and bytes. -/
import Derived.Test.YtafodaoehnggfaaMouldTake1
namespace Go.Proofs.Ytafodaoehnggfaa.M
open Go.RowKit

def zeroVal : Value := .agg #[.int .u64 0, .slice none 0 0, .slice none 0 0]

def ReadPost (w : World) (rb : Nat) (F : Nat → Prop) (r : Except Int (V × List UInt8)) (e : Ending) (w' : World) : Prop :=
  match r with
  | .error c => e = .returned (.tuple #[.agg #[.int .u64 0, .slice none 0 0, .slice none 0 0], .int .i64 c]) ∧ w.grownBy w' (some rb)
  | .ok (d, l) => ∃ u v, e = .returned (.tuple #[u, .int .i64 0]) ∧ w.grownBy w' (some rb) ∧ ReadAt w' rb v ∧ RepB w' F l v ∧ RepV w' (fun b => w.heap.size ≤ b ∧ b < w'.heap.size) d u

def KindSaid (fn : FuncId) (s : Sh) : Prop := ∀ (rb : Nat) (F G : Nat → Prop) (L : List UInt8) (v pu : Value) (w : World), ReadAt w rb v → RepB w F L v → RepS w G s pu →
  (∀ b, F b → b < w.heap.size ∧ b ≠ rb) → (∀ b, G b → b < w.heap.size ∧ b ≠ rb) → L.length ≤ 1099511627776 → ssize s ≤ 64 →
  Calls Try.prog fn #[.pointer (some ⟨rb, 0, none⟩), pu] w (ReadPost w rb F (takeV s L))

theorem takeNum_error {L : List UInt8} {c : Int} (h : takeNum L = .error c) : c = 11 ∨ c = 13 := by
  cases L with
  | nil => simp [takeNum] at h; exact .inl h.symm
  | cons x r =>
    rw [takeNum] at h
    split at h
    · cases h; exact .inr rfl
    · split at h
      · cases h; exact .inr rfl
      · split at h
        · cases h; exact .inl rfl
        · cases h

theorem takeNum_ok {L : List UInt8} {n : Nat} {r : List UInt8} (h : takeNum L = .ok (n, r)) : n < 18446744073709551616 ∧ r.length < L.length := by
  cases L with
  | nil => simp [takeNum] at h
  | cons x l =>
    rw [takeNum] at h
    split at h
    · cases h
    · rename_i h8
      split at h
      · cases h
      · split at h
        · cases h
        · cases h
          refine ⟨?_, by simp; omega⟩
          have h1 := fold256_lt (l.take x.toNat)
          have h2 : (l.take x.toNat).length ≤ 8 := by rw [List.length_take]; omega
          exact Nat.lt_of_lt_of_le h1 (Nat.pow_le_pow_right (n := 256) (by omega) h2)

/-- Behind two new blocks. -/
theorem boxes2 {w : World} {rb : Nat} {v : Value} {F : Nat → Prop} {L : List UInt8} (o1 o2 : Obj) (hr : ReadAt w rb v) (hv : RepB w F L v) (hF : ∀ b, F b → b < w.heap.size ∧ b ≠ rb) :
    ReadAt ((w.alloc o1).alloc o2) rb v ∧ RepB ((w.alloc o1).alloc o2) F L v := by
  refine ⟨old_alloc (old_alloc hr), hv.same (fun _ h => h) fun b hb => ?_⟩
  have := (hF b hb).1
  rw [Below.heap_alloc _ _ _ (by simp; omega), Below.heap_alloc _ _ _ this]

/-- What digits leaves behind two boxes. -/
def DigLeft (w : World) (rb : Nat) (F : Nat → Prop) (o1 o2 : Obj) (r : Except Int (Nat × List UInt8)) (e : Ending) (w' : World) : Prop :=
  w.grownBy w' (some rb) ∧ w'.heap[w.heap.size]? = some o1 ∧ w'.heap[w.heap.size + 1]? = some o2 ∧ match r with
  | .error c => e = .returned (.tuple #[.int .u64 0, .int .i64 c])
  | .ok (n, l) => ∃ v, e = .returned (.tuple #[.int .u64 (n : Int), .int .i64 0]) ∧ ReadAt w' rb v ∧ RepB w' F l v

theorem digits_left (rb : Nat) (F : Nat → Prop) (L : List UInt8) (v : Value) (w : World) (o1 o2 : Obj) (hr : ReadAt w rb v) (hv : RepB w F L v) (hF : ∀ b, F b → b < w.heap.size ∧ b ≠ rb) :
    Calls Try.prog 42 #[.pointer (some ⟨rb, 0, none⟩)] ((w.alloc o1).alloc o2) (DigLeft w rb F o1 o2 (takeNum L)) := by
  obtain ⟨hr2, hv2⟩ := boxes2 o1 o2 hr hv hF
  have hrb := lt_of_heap hr
  have h1 : ((w.alloc o1).alloc o2).heap[w.heap.size]? = some o1 := old_alloc (heap_new _ _ _ rfl)
  have h2 : ((w.alloc o1).alloc o2).heap[w.heap.size + 1]? = some o2 := heap_new _ _ _ (by simp)
  have hg : w.grownBy ((w.alloc o1).alloc o2) (some rb) := gb_alloc _ (gb_alloc _ (gb_refl _ _))
  refine (digits_any rb F L v _ hr2 hv2).mono ?_
  intro e w' hp
  cases hq : takeNum L with
  | error c =>
    rw [hq] at hp
    obtain ⟨rfl, rfl⟩ := hp
    exact ⟨hg, h1, h2, rfl⟩
  | ok x =>
    obtain ⟨n, r⟩ := x
    rw [hq] at hp
    obtain ⟨v1, rfl, rfl, hv1⟩ := hp
    refine ⟨gb_set _ _ hg, old_set h1 (by simp; omega), old_set h2 (by simp; omega), v1, rfl, ?_, hv1.same (fun _ h => h) fun b hb => ?_⟩
    · have := heap_setCell_same _ rb 0 _ _ v1 hr2
      simpa [ReadAt] using this
    · rw [Below.heap_setCell _ _ _ _ (by simpa using (hF b hb).2)]

set_option maxHeartbeats 1600000 in
theorem number_any : KindSaid 38 .num := by
  intro rb F G L v pu w hr hv hs hF hG hL hss
  obtain ⟨sa, sn, sc, rfl⟩ := hs.agg
  have hd := fun o1 o2 => digits_left rb F L _ w o1 o2 hr hv hF
  have hrb := lt_of_heap hr
  have HD := Lib.hid hd
  have HF := Lib.hid hF
  clear hd hr hv hs hF hG
  have HT : Hid (takeV .num L = match takeNum L with | .error e => .error e | .ok (n, r) => .ok (.mk n [] [], r)) := Lib.hid (by rw [takeV]; rfl)
  go_enter Try.func38, Try.ntmps38
  go_wp2_with fail
  refine (HD.out _ _).mono ?_
  intro e w1 hp
  obtain ⟨hg, -, hb2, hp⟩ := hp
  obtain ⟨d0, d1, d2, g0, g1, g2, hz⟩ := block3 hb2
  have HG := Lib.hid hg
  cases hq : takeNum L with
  | error c =>
    rw [hq] at hp
    subst hp
    have HQ := Lib.hid hq
    clear hq hg hb2
    go_wp2_with fail
    refine bodyPost_ret (v := .tuple #[.agg #[.int .u64 0, .slice none 0 0, .slice none 0 0], .int .i64 c]) (by simp [results, Try.results38, go_sem, d0, d1, d2]) rfl ?_
    rw [HT.out, HQ.out]
    exact ⟨rfl, gb_new _ (by omega) (gb_new _ (by omega) (gb_new _ (by omega) HG.out))⟩
  | ok x =>
    obtain ⟨n, r⟩ := x
    rw [hq] at hp
    obtain ⟨v1, rfl, hr1, hv1⟩ := hp
    have HQ := Lib.hid hq
    have HV1 := Lib.hid hv1
    have HR1 := Lib.hid hr1
    clear hq hv1 hr1 hg hb2
    go_wp2_with fail
    refine bodyPost_ret (v := .tuple #[.agg #[.int .u64 (n : Int), .slice none 0 0, .slice none 0 0], .int .i64 0]) (by simp [results, Try.results38, go_sem, d0, d1, d2]) rfl ?_
    rw [HT.out, HQ.out]
    refine ⟨_, _, rfl, gb_new _ (by omega) (gb_new _ (by omega) (gb_new _ (by omega) HG.out)), ?_, HV1.out.same (fun _ h => h) fun b hb => ?_, ?_⟩
    · exact old_set (old_set (old_set HR1.out (by simp; omega)) (by simp; omega)) (by simp; omega)
    · have hb2 := HF.out b hb
      simp (disch := (simp; omega)) only [Below.heap_setCell]
    · exact RepV_mk.2 ⟨_, _, rfl, (takeNum_ok HQ.out).1, .inl ⟨rfl, Bare.nil⟩, .inl ⟨rfl, Bare.nil⟩⟩

set_option maxHeartbeats 1600000 in
theorem blob_any : KindSaid 39 .blob := by
  intro rb F G L v pu w hr hv hs hF hG hL hss
  obtain ⟨sa, sn, sc, rfl⟩ := hs.agg
  have hd := fun o1 o2 => digits_left rb F L _ w o1 o2 hr hv hF
  have hrb := lt_of_heap hr
  have HD := Lib.hid hd
  have HF := Lib.hid hF
  clear hd hr hv hs hF hG
  have HT : Hid (takeV .blob L = match takeNum L with | .error e => .error e | .ok (n, r) => if r.length < n then .error 11 else .ok (.mk 0 (r.take n) [], r.drop n)) := Lib.hid (by rw [takeV]; rfl)
  go_enter Try.func39, Try.ntmps39
  go_wp2_with fail
  refine (HD.out _ _).mono ?_
  intro e w1 hp
  obtain ⟨hg, -, hb2, hp⟩ := hp
  obtain ⟨d0, d1, d2, g0, g1, g2, hz⟩ := block3 hb2
  have HG := Lib.hid hg
  cases hq : takeNum L with
  | error c =>
    rw [hq] at hp
    subst hp
    have HQ := Lib.hid hq
    have hc0 : (c != 0) = true := by rcases takeNum_error hq with rfl | rfl <;> rfl
    clear hq hg hb2
    go_wp2_with fail
    refine bodyPost_ret (v := .tuple #[.agg #[.int .u64 0, .slice none 0 0, .slice none 0 0], .int .i64 c]) (by simp [results, Try.results39, go_sem, d0, d1, d2]) rfl ?_
    rw [HT.out, HQ.out]
    exact ⟨rfl, gb_new _ (by omega) (gb_new _ (by omega) (gb_new _ (by omega) HG.out))⟩
  | ok x =>
    obtain ⟨n, r⟩ := x
    rw [hq] at hp
    obtain ⟨v1, rfl, hr1, hv1⟩ := hp
    have HQ := Lib.hid hq
    have HV1 := Lib.hid hv1
    have HR1 := Lib.hid hr1
    obtain ⟨a1, k1, rfl, hrl⟩ := hv1.slice
    obtain ⟨r0, -, hrb1⟩ := block1 hr1
    have hlt := (takeNum_ok hq).2
    have hn64 : n < 18446744073709551616 := (takeNum_ok hq).1
    have HN : Hid (n < 18446744073709551616) := Lib.hid (takeNum_ok hq).1
    clear hq hv1 hr1
    by_cases hn : r.length < n
    · have hn2 : (r.length : Int) < (n : Int) := by omega
      have HNN := Lib.hid hn
      clear hn64 hg hb2
      go_wp2_with fail
      refine bodyPost_ret (v := .tuple #[.agg #[.int .u64 0, .slice none 0 0, .slice none 0 0], .int .i64 11]) (by simp [results, Try.results39, go_sem, d0, d1, d2]) rfl ?_
      rw [HT.out, HQ.out]
      simp only [if_pos HNN.out]
      exact ⟨rfl, gb_new _ (by omega) (gb_new _ (by omega) (gb_new _ (by omega) HG.out))⟩
    · have hn2 : ¬ (r.length : Int) < (n : Int) := by omega
      have hn3 : n ≤ r.length := by omega
      have HNN := Lib.hid hn
      have HC := Lib.hid (cut_any rb F r _ n w1 HR1.out HV1.out (fun b hb => ⟨Nat.lt_of_lt_of_le (HF.out b hb).1 hg.size, (HF.out b hb).2⟩) hn3 (by omega))
      have HB2 := Lib.hid hb2
      clear hn64 hg hn hb2
      go_wp2_with fail
      refine HC.out.mono ?_
      rintro e w2 ⟨u, v2, rfl, hg2, hr2, hv2, hu⟩
      have hb3 := (hg2.block (w.heap.size + 1) hz (by simp; omega)).trans HB2.out
      obtain ⟨d0, d1, d2, g0, g1, g2, hz2⟩ := block3 hb3
      obtain ⟨ua, uc, hue, _⟩ := hu.slice
      rw [List.length_take, Nat.min_eq_left hn3] at hue
      subst hue
      have HG2 := Lib.hid hg2
      have HR2 := Lib.hid hr2
      have HV2 := Lib.hid hv2
      have HU := Lib.hid hu
      clear hg2 hr2 hv2 hu hb3
      go_wp2_with fail
      refine bodyPost_ret (v := .tuple #[.agg #[.int .u64 0, .slice ua n uc, .slice none 0 0], .int .i64 0]) (by simp [results, Try.results39, go_sem, d0, d1, d2]) rfl ?_
      rw [HT.out, HQ.out]
      simp only [if_neg HNN.out]
      refine ⟨_, _, rfl, gb_new _ (by omega) (gb_new _ (by omega) (gb_new _ (by omega) (gb_trans HG.out HG2.out))), ?_, HV2.out.same (fun _ h => h) fun b hb => ?_, ?_⟩
      · exact old_set (old_set (old_set HR2.out (by simp; omega)) (by simp; omega)) (by simp; omega)
      · have hb2 := HF.out b hb
        simp (disch := (simp; omega)) only [Below.heap_setCell]
      · refine RepV_mk.2 ⟨_, _, rfl, by omega, HU.out.same (fun b hb => ?_) (fun b hb => ?_), .inl ⟨rfl, Bare.nil⟩⟩
        · simp; have := HG.out.size; omega
        · simp (disch := (simp; omega)) only [Below.heap_setCell]
end Go.Proofs.Ytafodaoehnggfaa.M
