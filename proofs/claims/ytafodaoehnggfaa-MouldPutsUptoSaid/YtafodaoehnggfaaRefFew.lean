/- The document's counts of a value's parts. -/
import Derived.Test.YtafodaoehnggfaaOpenVal
namespace Go.Proofs.Ytafodaoehnggfaa.M
open Go.RowKit

mutual
/-- How many parts a value has. -/
def vparts : V → Nat
  | .mk _ _ l => 1 + vpartss l
def vpartss : List V → Nat
  | [] => 0
  | v :: l => vparts v + vpartss l
end

theorem vpartss_take : ∀ (l : List V) (k : Nat) (h : k < l.length), vpartss (l.take (k + 1)) = vpartss (l.take k) + vparts l[k]
  | v :: l, 0, _ => by simp [vpartss]
  | v :: l, k + 1, h => by
    have := vpartss_take l k (by simpa using h)
    simp only [List.take_succ_cons, vpartss, List.getElem_cons_succ, this]
    omega

theorem vparts_mem : ∀ (l : List V) (k : Nat) (h : k < l.length), vparts l[k] ≤ vpartss l
  | v :: l, 0, _ => by simp [vpartss]
  | v :: l, k + 1, h => by
    have := vparts_mem l k (by simpa using h)
    simp only [List.getElem_cons_succ, vpartss]
    omega

theorem vpartss_le : ∀ (l : List V) (k : Nat), vpartss (l.take k) ≤ vpartss l
  | [], k => by simp
  | v :: l, 0 => by simp [vpartss]
  | v :: l, k + 1 => by
    have := vpartss_le l k
    simp only [List.take_succ_cons, vpartss]
    omega

/-- What is left of a number when so many are taken off, or that it has too many. -/
def PartsIs (n : Nat) (left r : Int) : Prop := -1 ≤ r ∧ r ≤ left ∧ ((n : Int) ≤ left → r = left - n) ∧ (left < (n : Int) → r < 0)

theorem PartsIs.more {n m : Nat} {left r s : Int} (h : PartsIs n left r) (h0 : 0 ≤ r) (g : PartsIs m r s) : PartsIs (n + m) left s := by
  obtain ⟨h1, h2, h3, h4⟩ := h
  obtain ⟨g1, g2, g3, g4⟩ := g
  refine ⟨g1, by omega, fun h => ?_, fun h => ?_⟩
  · have := h3 (by omega)
    have := g3 (by omega)
    omega
  · rcases Int.lt_or_le left (n : Int) with h5 | h5
    · have := h4 h5; omega
    · have := h3 h5
      exact g4 (by omega)

theorem PartsIs.over {n m : Nat} {left r : Int} (h : PartsIs n left r) (h0 : r < 0) (hm : n ≤ m) : PartsIs m left r := by
  obtain ⟨h1, h2, h3, h4⟩ := h
  exact ⟨h1, h2, fun h => by have := h3 (by omega); omega, fun h => h0⟩

def PartsSaid (d : V) : Prop := ∀ (F : Nat → Prop) (v : Value) (w : World) (left : Int), RepV w F d v → (∀ b, F b → b < w.heap.size) → 0 ≤ left → left ≤ 2000 →
  Calls Try.prog 23 #[v, .int .i64 left] w fun e w' => Below w.heap.size w w' ∧ ∃ r, e = .returned (.int .i64 r) ∧ PartsIs (vparts d) left r

/-- The state at the head of the loop over a value's parts. -/
def PartsAt (w : World) (o : Obj) (l : List V) (left : Int) (k : Nat) (r : Int) (wr : World) : Prop :=
  k ≤ l.length ∧ Below w.heap.size w wr ∧ wr.heap[w.heap.size]? = some o ∧ PartsIs (1 + vpartss (l.take k)) left r

set_option maxHeartbeats 800000 in
theorem parts_of (n : Nat) (b : List UInt8) (l : List V) (hl : ∀ (k : Nat) (h : k < l.length), PartsSaid l[k]) : PartsSaid (.mk n b l) := by
  intro F v w left hv hF h0 h2
  obtain ⟨vb, vl, rfl, hn, hb, hvl⟩ := RepV_mk.1 hv
  obtain ⟨ba, bc, rfl, -⟩ := hb.slice
  obtain ⟨la, lc, rfl, hlen⟩ := hvl.slice
  have HV := Lib.hid hvl
  have HL := Lib.hid hl
  have HF := Lib.hid hF
  clear hv hb hvl hl hF
  go_enter Try.func23, Try.ntmps23
  go_wp2_with fail
  go_loopw [1, 5] (fun r i wr => ∃ (k : Nat) (z : Int), r = .int .i64 z ∧ i = .int .i64 (k : Int) ∧ PartsAt w (.cells #[.int .u64 (n : Int), .slice ba b.length bc, .slice la l.length lc] 31) l left k z wr) (fun _ i _ => l.length - (intOf i).toNat)
  case atStart => exact ⟨0, _, rfl, rfl, Nat.zero_le _, below_alloc _ _, heap_new _ _ _ rfl, by simp [PartsIs, vpartss]; omega⟩
  case round =>
    obtain ⟨k, z, rfl, rfl, hk, hB, hbox, hp⟩ := hrel
    obtain ⟨c0, c1, c2, f0, f1, f2, hz⟩ := block3 hbox
    have hz1 := hp.1
    have hz2 := hp.2.1
    have HP := Lib.hid hp
    have HB := Lib.hid hbox
    clear hp hbox
    by_cases hk2 : k < l.length
    · by_cases hz3 : 0 ≤ z
      · obtain ⟨eb, eoff, ea, hFb, u, hu, hrep⟩ := HV.out.elem k hk2
        subst ea
        obtain ⟨x0, x1, x2, rfl, e0, e1, e2⟩ := hu.same (hB.block eb (HF.out eb hFb))
        have hrep' := Lib.hid (hrep.same (fun _ h => h) fun b hb => hB.block b (HF.out b hb))
        have hkk : (k : Int) < (l.length : Int) := by omega
        clear hrep hu
        go_wp2_with fail
        refine (HL.out k hk2 F _ _ z hrep'.out (fun b hb => by have := HF.out b hb; have := hB.size; omega) hz3 (by omega)).mono ?_
        rintro e w1 ⟨hB1, r, rfl, hr⟩
        have hB2 : Below w.heap.size w w1 := hB.trans (hB1.mono hB.size)
        have HQ : Hid (PartsAt w (.cells #[.int .u64 (n : Int), .slice ba b.length bc, .slice (some ⟨eb, eoff, none⟩) l.length lc] 31) l left (k + 1) r w1) := Lib.hid ⟨by omega, hB2, (hB1.block _ hz).trans HB.out, by
          rw [vpartss_take l k hk2, ← Nat.add_assoc]; exact HP.out.more hz3 hr⟩
        clear hr hB1
        go_wp2_with fail
        go_roundw
        case rel => exact ⟨k + 1, r, rfl, by go_num, HQ.out⟩
        case measure => simp [intOf]; omega
      · have hkk : (k : Int) < (l.length : Int) := by omega
        go_wp2_with fail
        go_ret
        refine ⟨hB, z, rfl, ?_⟩
        have := HP.out.over (by omega) (m := vparts (.mk n b l)) (by have := vpartss_le l k; simp only [vparts]; omega)
        exact this
    · have hkk : ¬ (k : Int) < (l.length : Int) := by omega
      go_wp2_with fail
      go_ret
      refine ⟨hB, z, rfl, ?_⟩
      have := HP.out
      rw [List.take_of_length_le (by omega)] at this
      exact this

theorem parts_sized : ∀ (n : Nat) (d : V), vparts d ≤ n → PartsSaid d
  | 0, .mk _ _ _, h => by simp [vparts] at h
  | n + 1, .mk a b l, h => parts_of a b l fun k hk => parts_sized n l[k] (by have := vparts_mem l k hk; simp only [vparts] at h; omega)

theorem parts_any (d : V) : PartsSaid d := parts_sized _ d (Nat.le_refl _)

def FewAt (w : World) (l : List V) (left : Int) (k : Nat) (r : Int) (wr : World) : Prop :=
  k ≤ l.length ∧ Below w.heap.size w wr ∧ PartsIs (vpartss (l.take k)) left r

set_option maxHeartbeats 800000 in
theorem Few_any (F : Nat → Prop) (l : List V) (v : Value) (w : World) (left : Int) (hv : RepVl w F l v) (hF : ∀ b, F b → b < w.heap.size) (h0 : 0 ≤ left) (h2 : left ≤ 2000) :
    Calls Try.prog 10 #[.int .i64 left, v] w fun e w' => Below w.heap.size w w' ∧ e = .returned (.bool (decide ((vpartss l : Int) ≤ left))) := by
  obtain ⟨la, lc, rfl, hlen⟩ := hv.slice
  have HV := Lib.hid hv
  have HF := Lib.hid hF
  clear hv hF
  go_enter Try.func10, Try.ntmps10
  go_wp2_with fail
  go_loopw [5, 6] (fun r i wr => ∃ (k : Nat) (z : Int), r = .int .i64 z ∧ i = .int .i64 (k : Int) ∧ FewAt w l left k z wr) (fun _ i _ => l.length - (intOf i).toNat)
  case atStart => exact ⟨0, _, rfl, rfl, Nat.zero_le _, Below.refl _ _, by simp [PartsIs, vpartss]; omega⟩
  case round =>
    obtain ⟨k, z, rfl, rfl, hk, hB, hp⟩ := hrel
    have hz1 := hp.1
    have hz2 := hp.2.1
    have HP := Lib.hid hp
    clear hp
    by_cases hk2 : k < l.length
    · by_cases hz3 : 0 ≤ z
      · obtain ⟨eb, eoff, ea, hFb, u, hu, hrep⟩ := HV.out.elem k hk2
        subst ea
        obtain ⟨x0, x1, x2, rfl, e0, e1, e2⟩ := hu.same (hB.block eb (HF.out eb hFb))
        have hrep' := Lib.hid (hrep.same (fun _ h => h) fun b hb => hB.block b (HF.out b hb))
        have hkk : (k : Int) < (l.length : Int) := by omega
        clear hrep hu
        go_wp2_with fail
        refine (parts_any l[k] F _ _ z hrep'.out (fun b hb => by have := HF.out b hb; have := hB.size; omega) hz3 (by omega)).mono ?_
        rintro e w1 ⟨hB1, r, rfl, hr⟩
        have hB2 : Below w.heap.size w w1 := hB.trans (hB1.mono hB.size)
        have HQ : Hid (FewAt w l left (k + 1) r w1) := Lib.hid ⟨by omega, hB2, by
          rw [vpartss_take l k hk2]; exact HP.out.more hz3 hr⟩
        clear hr hB1
        go_wp2_with fail
        go_roundw
        case rel => exact ⟨k + 1, r, rfl, by go_num, HQ.out⟩
        case measure => simp [intOf]; omega
      · have hkk : (k : Int) < (l.length : Int) := by omega
        go_wp2_with fail
        go_ret
        refine ⟨hB, ?_⟩
        have h4 := HP.out.over (by omega) (m := vpartss l) (vpartss_le l k)
        have h5 : ¬ (vpartss l : Int) ≤ left := fun h => by have := h4.2.2.1 h; have := h4.1; omega
        rw [decide_eq_false h5]
        rfl
    · have hkk : ¬ (k : Int) < (l.length : Int) := by omega
      have HQ : Hid (decide ((vpartss l : Int) ≤ left) = decide (0 ≤ z)) := Lib.hid (by
        have h4 := HP.out
        rw [List.take_of_length_le (by omega)] at h4
        by_cases h5 : (vpartss l : Int) ≤ left
        · have := h4.2.2.1 h5
          rw [decide_eq_true h5, decide_eq_true (by omega)]
        · have := h4.2.2.2 (by omega)
          rw [decide_eq_false h5, decide_eq_false (by omega)])
      by_cases h6 : 0 ≤ z
      · go_wp2_with fail
        go_ret
        refine ⟨hB, ?_⟩
        rw [HQ.out, decide_eq_true h6]
        rfl
      · go_wp2_with fail
        go_ret
        refine ⟨hB, ?_⟩
        rw [HQ.out, decide_eq_false (by omega)]
        rfl
end Go.Proofs.Ytafodaoehnggfaa.M
