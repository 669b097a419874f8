/- The pieces of a cut, taken in any order, over plain lists. -/
import Derived.Test.YtdngfbljcmbniaaDoorCN4
namespace Go.Proofs.YtdngfbljcmbniaaDoor.M

/-- All are pieces of one cut. -/
def OfCut (i t : Int) (b : List UInt8) (size : Nat) (L : List Pc) : Prop := ∀ p ∈ L, ∃ k, k < cutN b.length size ∧ p = cutPc i t b size k

theorem cutPc_len {b : List UInt8} {size k : Nat} (i t : Int) : (cutPc i t b size k).b.length = min size (b.length - k * size) := by unfold cutPc; simp

theorem cutPc_pos {b : List UInt8} {size k : Nat} (i t : Int) : (cutPc i t b size k).pos.toNat = k * size := by show (((k * size : Nat) : Int)).toNat = k * size; omega

theorem cut_end {n size k : Nat} (hs : 0 < size) (hk : k < cutN n size) : k * size + min size (n - k * size) ≤ n := by
  by_cases hn : n = 0
  · have : cutN n size = 1 := by unfold cutN; rw [if_pos hn]
    obtain rfl : k = 0 := by omega
    omega
  · have := (cutN_lt hs hn).1 hk
    omega

theorem cutPc_ok {most i t : Int} {b : List UInt8} {size k : Nat} (hm : okMark i t = true) (hs : 0 < size) (hk : k < cutN b.length size) (hb : (b.length : Int) ≤ most) : okPc most (cutPc i t b size k) = true := by
  unfold okMark at hm
  rw [decide_eq_true_eq] at hm
  have h1 := cut_end hs hk
  rw [okPc_iff, cutPc_len]
  refine ⟨hm, ?_, hb, ?_, ?_, ?_⟩
  · show 0 ≤ (b.length : Int); omega
  · show _ ↔ (b.length : Int) = 0
    by_cases hn : b.length = 0
    · omega
    · have := (cutN_lt hs hn).1 hk
      omega
  · show 0 ≤ ((k * size : Nat) : Int); omega
  · show ((k * size : Nat) : Int) + _ ≤ (b.length : Int); omega

theorem cutPc_alike (i t : Int) (b : List UInt8) (size k j : Nat) : alike (cutPc i t b size k) (cutPc i t b size j) = true := alike_iff.2 ⟨rfl, rfl, rfl, rfl⟩

theorem cutPc_get {i t : Int} {b : List UInt8} {size k j : Nat} (h : j < (cutPc i t b size k).b.length) : (cutPc i t b size k).b[j]? = b[k * size + j]? := by
  rw [cutPc_len] at h
  unfold cutPc
  simp only
  rw [List.getElem?_take_of_lt (by omega), List.getElem?_drop]

/-- What is there is the byte. -/
theorem OfCut.byte {i t : Int} {b : List UInt8} {size : Nat} : ∀ {L : List Pc}, OfCut i t b size L → ∀ {j : Nat} {c : UInt8}, byteL L j = some c → b[j]? = some c
  | [], _, j, c, h => by cases h
  | p :: L, hL, j, c, h => by
    simp only [byteL] at h
    split at h
    · rename_i hc
      obtain ⟨k, hk, rfl⟩ := hL p (by simp)
      rw [cutPc_pos] at h hc
      rw [cutPc_get (by omega), show k * size + (j - k * size) = j by omega] at h
      exact h
    · exact OfCut.byte (fun q hq => hL q (by simp [hq])) h

theorem byteL_mem {p : Pc} {j : Nat} (hc : p.pos.toNat ≤ j ∧ j < p.pos.toNat + p.b.length) : ∀ {L : List Pc}, p ∈ L → (byteL L j).isSome = true
  | q :: L, h => by
    simp only [byteL]
    split
    · rename_i h2
      rw [List.getElem?_eq_getElem (by omega)]; rfl
    · rename_i h2
      rcases List.mem_cons.1 h with rfl | h
      · exact absurd hc h2
      · exact byteL_mem hc h

/-- .. and is there by its own piece alone. -/
theorem OfCut.mem {i t : Int} {b : List UInt8} {size : Nat} (hs : 0 < size) {k j : Nat} (hj : k * size ≤ j ∧ j < (k + 1) * size) : ∀ {L : List Pc}, OfCut i t b size L → (byteL L j).isSome = true → cutPc i t b size k ∈ L
  | [], _, h => by cases h
  | p :: L, hL, h => by
    simp only [byteL] at h
    split at h
    · rename_i hc
      obtain ⟨m, hm, rfl⟩ := hL p (by simp)
      rw [cutPc_pos, cutPc_len] at hc
      have hjm : j / size = m := by
        refine Nat.div_eq_of_lt_le (by omega) ?_
        rw [Nat.add_mul]; omega
      have hjk : j / size = k := Nat.div_eq_of_lt_le (by omega) (by omega)
      rw [hjm] at hjk
      rw [hjk]; simp
    · exact List.mem_cons_of_mem _ (OfCut.mem hs hj (fun q hq => hL q (by simp [hq])) h)

theorem OfCut.tot {i t : Int} {b : List UInt8} {size : Nat} {L : List Pc} (h : OfCut i t b size L) (h0 : L ≠ []) : totN L = b.length := by
  cases L with
  | nil => exact absurd rfl h0
  | cons p L =>
    obtain ⟨k, -, rfl⟩ := h p (by simp)
    show ((b.length : Int)).toNat = b.length
    omega

/-- Whole, as soon as each is there. -/
theorem OfCut.whole {i t : Int} {b : List UInt8} {size : Nat} (hs : 0 < size) {L : List Pc} (h : OfCut i t b size L) (h0 : L ≠ []) :
    wholeB L = true ↔ ∀ k, k < cutN b.length size → cutPc i t b size k ∈ L := by
  have ht := h.tot h0
  obtain ⟨m1, m2, m3⟩ := missing_spec L
  have hw : wholeB L = true ↔ missing L = b.length := by
    unfold wholeB
    rw [ht]
    cases L with
    | nil => exact absurd rfl h0
    | cons p L => simp
  rw [hw]
  constructor
  · intro hm k hk
    by_cases hn : b.length = 0
    · have hN : cutN b.length size = 1 := by unfold cutN; rw [if_pos hn]
      cases L with
      | nil => exact absurd rfl h0
      | cons p L =>
        obtain ⟨j, hj, hp⟩ := h p (by simp)
        obtain rfl : k = 0 := by omega
        obtain rfl : j = 0 := by omega
        rw [← hp]; simp
    · have hlt := (cutN_lt hs hn).1 hk
      exact OfCut.mem hs (j := k * size) ⟨Nat.le_refl _, by rw [Nat.add_mul]; omega⟩ h (m2 _ (by omega))
  · intro hall
    rcases Nat.lt_or_ge (missing L) b.length with hl | hl
    · exfalso
      have hn : b.length ≠ 0 := by omega
      have hd : missing L / size * size ≤ missing L := Nat.div_mul_le_self _ _
      have hd2 : missing L < missing L / size * size + size := by
        have := Nat.div_add_mod (missing L) size
        have h2 := Nat.mod_lt (missing L) hs
        rw [Nat.mul_comm] at this
        omega
      have hk := (cutN_lt (k := missing L / size) hs hn).2 (by omega)
      have := byteL_mem (p := cutPc i t b size (missing L / size)) (j := missing L) (by rw [cutPc_pos, cutPc_len]; omega) (hall _ hk)
      rw [m3 (by omega)] at this
      cases this
    · omega

theorem OfCut.bytes {i t : Int} {b : List UInt8} {size : Nat} {L : List Pc} (h : OfCut i t b size L) (h0 : L ≠ []) (hw : wholeB L = true) : bytesOf (byteL L) (totN L) = b := by
  have ht := h.tot h0
  obtain ⟨m1, m2, m3⟩ := missing_spec L
  have hm : missing L = b.length := by
    unfold wholeB at hw
    rw [ht] at hw
    cases L with
    | nil => exact absurd rfl h0
    | cons p L => simpa using hw
  rw [ht]
  unfold bytesOf
  refine List.ext_getElem (by simp) fun j h1 h2 => ?_
  simp only [List.length_map, List.length_range] at h1
  simp only [List.getElem_map, List.getElem_range]
  have h3 := m2 j (by omega)
  cases hx : byteL L j with
  | none => rw [hx] at h3; cases h3
  | some c =>
    have h4 := h.byte hx
    rw [List.getElem?_eq_getElem h2] at h4
    simpa using (Option.some.inj h4).symm

theorem OfCut.sum_ok {i t : Int} {b : List UInt8} {size : Nat} {L : List Pc} (h : OfCut i t b size L) (h0 : L ≠ []) {p : Pc} (hp : p ∈ L) (hw : wholeB L = true) : (C.sumOf (bytesOf (byteL L) (totN L)) : Int) = p.sum := by
  rw [h.bytes h0 hw]
  obtain ⟨k, -, rfl⟩ := h p hp
  rfl

theorem OfCut.free {i t : Int} {b : List UInt8} {size k : Nat} {L : List Pc} (h : OfCut i t b size L) : clashAt (byteL L) (cutPc i t b size k).pos.toNat (cutPc i t b size k).b = false := by
  rw [Bool.eq_false_iff]
  intro hc
  obtain ⟨j, hj, h1, h2⟩ := clashAt_iff.1 hc
  cases hx : byteL L ((cutPc i t b size k).pos.toNat + j) with
  | none => rw [hx] at h1; cases h1
  | some c =>
    have h3 := h.byte hx
    rw [cutPc_get hj] at h2
    rw [cutPc_pos] at h3 hx h2
    rw [hx] at h2
    exact h2 h3.symm

theorem OfCut.snoc {i t : Int} {b : List UInt8} {size k : Nat} {L : List Pc} (h : OfCut i t b size L) (hk : k < cutN b.length size) : OfCut i t b size (L ++ [cutPc i t b size k]) := fun p hp => by
  rcases List.mem_append.1 hp with hp | hp
  · exact h p hp
  · exact ⟨k, hk, List.mem_singleton.1 hp⟩

theorem layE_cut {i t : Int} {b : List UInt8} {size k : Nat} {L : List Pc} (h : OfCut i t b size L) (hk : k < cutN b.length size) : layE L (cutPc i t b size k) = (0, L ++ [cutPc i t b size k]) := by
  have h1 := h.snoc hk
  have h0 : L ++ [cutPc i t b size k] ≠ [] := by simp
  unfold layE
  cases hw : wholeB (L ++ [cutPc i t b size k]) with
  | false => rfl
  | true => rw [h1.sum_ok h0 (p := cutPc i t b size k) (by simp) hw]; simp

/-- A piece of the cut is taken, by a heap that has some, or nothing, or an elder one's. -/
theorem take_cut {most i t : Int} {b : List UInt8} {size k : Nat} {L : List Pc} (hm : okMark i t = true) (hs : 0 < size) (hk : k < cutN b.length size) (hb : (b.length : Int) ≤ most) (h : OfCut i t b size L) :
    takeE most L (cutPc i t b size k) = (0, L ++ [cutPc i t b size k]) := by
  have hp := cutPc_ok hm hs hk hb
  cases L with
  | nil => rw [take_first hp, layE_cut h hk]
  | cons f L =>
    obtain ⟨j, hj, hf⟩ := h f (by simp)
    rw [take_lay hp (by rw [hf]; exact cutPc_alike _ _ _ _ _ _) h.free, layE_cut h hk]

theorem take_cut_newer {most i t : Int} {b : List UInt8} {size k : Nat} {f : Pc} {L : List Pc} (hm : okMark i t = true) (hs : 0 < size) (hk : k < cutN b.length size) (hb : (b.length : Int) ≤ most) (hf : f.idx < i) :
    takeE most (f :: L) (cutPc i t b size k) = (0, [cutPc i t b size k]) := by
  have hp := cutPc_ok hm hs hk hb
  rw [take_newer hp (by exact hf), layE_cut (fun p hp => by cases hp) hk]
  rfl
end Go.Proofs.YtdngfbljcmbniaaDoor.M
