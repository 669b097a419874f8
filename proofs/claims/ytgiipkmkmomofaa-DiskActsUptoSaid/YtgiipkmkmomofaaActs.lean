/- What an act's own functions answer. -/
import Derived.Test.YtgiipkmkmomofaaOpenActs
import Derived.IntWalk
import Derived.WalkLawsBesides
namespace Go.Proofs.Ytgiipkmkmomofaa.M
open Go.RowKit

/-- The name at a place; empty: there is none. -/
def Ac.name (a : Ac) (i : Nat) : ByteArray := a.names.getD i ⟨#[]⟩

theorem Ac.name_size {a : Ac} (h : ∀ s ∈ a.names, s.size ≤ 9223372036854775807) (i : Nat) : (a.name i).size ≤ 9223372036854775807 := by
  unfold Ac.name
  rw [List.getD_eq_getElem?_getD]
  by_cases hi : i < a.names.length
  · rw [List.getElem?_eq_getElem hi]
    exact h _ (List.getElem_mem hi)
  · rw [List.getElem?_eq_none (by omega)]
    show (0 : Nat) ≤ _
    omega

/-- Five cells of a new block. -/
theorem five_new (w : World) (x0 x1 x2 x3 x4 : Value) (t : TypeId) (g : Nat) (hg : g = w.heap.size) :
    (w.alloc (.cells #[x0, x1, x2, x3, x4] t)).cell? ⟨g, 0, none⟩ = some x0 ∧ (w.alloc (.cells #[x0, x1, x2, x3, x4] t)).cell? ⟨g, 1, none⟩ = some x1 ∧ (w.alloc (.cells #[x0, x1, x2, x3, x4] t)).cell? ⟨g, 2, none⟩ = some x2 ∧
    (w.alloc (.cells #[x0, x1, x2, x3, x4] t)).cell? ⟨g, 3, none⟩ = some x3 ∧ (w.alloc (.cells #[x0, x1, x2, x3, x4] t)).cell? ⟨g, 4, none⟩ = some x4 := by
  subst hg
  have hc := fun j => cell_of_row _ w.heap.size j _ t _ (heap_alloc_new w (.cells #[x0, x1, x2, x3, x4] t))
  exact ⟨hc 0, hc 1, hc 2, hc 3, hc 4⟩

set_option maxRecDepth 20000 in
set_option maxHeartbeats 1600000 in
theorem ActName_any (a : Ac) (F : Nat → Prop) (x0 x1 x2 x3 x4 : Value) (i : Nat) (w : World) (h : RepA w F a x0 x1 x2 x3 x4) (hF : ∀ k, F k → k < w.heap.size) :
    Calls Try.prog 28 #[.agg #[x0, x1, x2, x3, x4], .int .i64 (i : Int)] w fun e w' => e = .returned (.string (a.name i)) ∧ Below w.heap.size w w' := by
  have hn := h.2.2.1
  obtain ⟨na, nc, rfl, hnl⟩ := hn.slice
  have HN := Lib.hid hn
  have HF := Lib.hid hF
  clear h hn hF
  by_cases hi : i < a.names.length
  · have q1 : (i : Int) < (a.names.length : Int) := by omega
    obtain ⟨b, off, rfl, hFb, hc⟩ := HN.out.elem i hi
    have hbz : b < w.heap.size := HF.out b hFb
    have HE : Hid (a.name i = a.names[i]) := Lib.hid (by unfold Ac.name; rw [List.getD_eq_getElem?_getD, List.getElem?_eq_getElem hi]; rfl)
    obtain ⟨s, hs⟩ : ∃ s, s = a.names[i] := ⟨_, rfl⟩
    rw [← hs] at hc HE
    clear hs hi
    go_enter Try.func28, Try.ntmps28
    go_wp2_with fail
    go_ret
    exact ⟨by rw [HE.out]; rfl, below_alloc _ _⟩
  · have q1 : ¬ (i : Int) < (a.names.length : Int) := by omega
    have HE : Hid (a.name i = ⟨#[]⟩) := Lib.hid (by unfold Ac.name; rw [List.getD_eq_getElem?_getD, List.getElem?_eq_none (by omega)]; rfl)
    clear hi
    go_enter Try.func28, Try.ntmps28
    go_wp2_with fail
    go_ret
    exact ⟨by rw [HE.out]; rfl, below_alloc _ _⟩

theorem nsize_take (l : List ByteArray) (k : Nat) (h : k < l.length) : nsize (l.take (k + 1)) = nsize (l.take k) + (l[k].size + 1) := by
  unfold nsize
  rw [List.take_succ_eq_append_getElem h, List.map_append, List.sum_append]
  simp

theorem bsize_take (l : List (List UInt8)) (k : Nat) (h : k < l.length) : bsize (l.take (k + 1)) = bsize (l.take k) + (l[k].length + 1) := by
  unfold bsize
  rw [List.take_succ_eq_append_getElem h, List.map_append, List.sum_append]
  simp

theorem nsize_le (l : List ByteArray) (k : Nat) : nsize (l.take k) ≤ nsize l := by
  have h : nsize l = nsize (l.take k) + nsize (l.drop k) := by
    unfold nsize
    rw [← List.sum_append, ← List.map_append, List.take_append_drop]
  omega

theorem bsize_le (l : List (List UInt8)) (k : Nat) : bsize (l.take k) ≤ bsize l := by
  have h : bsize l = bsize (l.take k) + bsize (l.drop k) := by
    unfold bsize
    rw [← List.sum_append, ← List.map_append, List.take_append_drop]
  omega

set_option maxRecDepth 20000 in
set_option maxHeartbeats 3200000 in
theorem ActSize_any (a : Ac) (F : Nat → Prop) (x0 x1 x2 x3 x4 : Value) (w : World) (h : RepA w F a x0 x1 x2 x3 x4) (hF : ∀ k, F k → k < w.heap.size) (hsz : Hid (asize a ≤ 1099511627776)) :
    Calls Try.prog 13 #[.agg #[x0, x1, x2, x3, x4]] w fun e w' => e = .returned (.int .i64 (asize a : Int)) ∧ Below w.heap.size w w' := by
  have hn := h.2.2.1
  have hb := h.2.2.2.2.1
  have hk := h.2.2.2.2.2.2.2
  obtain ⟨na, nc, rfl, hnl⟩ := hn.slice
  obtain ⟨ba, bc, rfl, hbl⟩ := hb.slice
  obtain ⟨ka, kc, rfl, hkl⟩ := hk.slice
  have HN := Lib.hid hn
  have HBL := Lib.hid hb
  have HF := Lib.hid hF
  have hkk : a.keep.length ≤ 1099511627776 := by have := hsz.out; unfold asize at this; omega
  obtain ⟨n1, hn1⟩ : ∃ n1, n1 = a.names.length := ⟨_, rfl⟩
  obtain ⟨n2, hn2⟩ : ∃ n2, n2 = a.bs.length := ⟨_, rfl⟩
  obtain ⟨n4, hn4⟩ : ∃ n4, n4 = a.keep.length := ⟨_, rfl⟩
  rw [← hn1] at HN hnl ⊢
  rw [← hn2] at HBL hbl ⊢
  rw [← hn4] at hkk ⊢
  have HN1 := Lib.hid hn1
  have HN2 := Lib.hid hn2
  have HN4 := Lib.hid hn4
  have HSUM : Hid (∀ i j, (n4 : Int) + 1 + (nsize (a.names.take i) : Int) + (bsize (a.bs.take j) : Int) ≤ 1099511627776) := Lib.hid fun i j => by
    have h1 := nsize_le a.names i
    have h2 := bsize_le a.bs j
    have h3 := hsz.out
    have h4 := HN4.out
    unfold asize at h3
    omega
  clear h hn hb hk hF hn1 hn2 hn4 hkl
  go_enter Try.func13, Try.ntmps13
  go_wp2_with fail
  go_loop [3, 4] (fun s i => ∃ (k y : Nat), k ≤ n1 ∧ i = .int .i64 (k : Int) ∧ s = .int .i64 (y : Int) ∧ Hid (y = n4 + 1 + nsize (a.names.take k))) (fun _ i => n1 - (intOf i).toNat)
  case atStart => exact ⟨0, n4 + 1, Nat.zero_le _, rfl, by go_num, Lib.hid (by simp [nsize])⟩
  case round =>
    obtain ⟨k, y, hk, rfl, rfl, HY⟩ := hrel
    have hy := HSUM.out k 0
    rw [show bsize (a.bs.take 0) = 0 from rfl] at hy
    have hyl : (y : Int) ≤ 1099511627776 := by have := HY.out; omega
    by_cases hlt : k < n1
    · have hlt2 : k < a.names.length := by rw [← HN1.out]; exact hlt
      have q1 : (k : Int) < (n1 : Int) := by omega
      obtain ⟨b, off, rfl, hFb, hc⟩ := HN.out.elem k hlt2
      have hbz : b < w.heap.size := HF.out b hFb
      have h2 := HSUM.out (k + 1) 0
      have h3 := nsize_take a.names k hlt2
      rw [show bsize (a.bs.take 0) = 0 from rfl] at h2
      obtain ⟨s, hs⟩ : ∃ s, s = a.names[k] := ⟨_, rfl⟩
      rw [← hs] at hc h3
      have h5 : s.size ≤ 1099511627776 := by omega
      have HN' : Hid (y + (s.size + 1) = n4 + 1 + nsize (a.names.take (k + 1))) := Lib.hid (by have := HY.out; omega)
      have h6 : (y : Int) + ((s.size : Int) + 1) ≤ 1099511627776 := by have := HY.out; omega
      clear hs h2 h3 hy hlt2
      go_wp2_with fail
      go_round
      case rel => exact ⟨k + 1, y + (s.size + 1), by omega, by go_num, by go_num, HN'⟩
      case measure => simp [intOf]; omega
    · have q1 : ¬ (k : Int) < (n1 : Int) := by omega
      obtain rfl : k = n1 := by omega
      have HY0 : Hid (y = n4 + 1 + nsize a.names) := Lib.hid (by have := HY.out; rw [HN1.out, List.take_length] at this; exact this)
      clear hy hlt
      go_wp2_with fail
      go_loop [3, 5] (fun s i => ∃ (j z : Nat), j ≤ n2 ∧ i = .int .i64 (j : Int) ∧ s = .int .i64 (z : Int) ∧ Hid (z = y + bsize (a.bs.take j))) (fun _ i => n2 - (intOf i).toNat)
      case atStart => exact ⟨0, y, Nat.zero_le _, rfl, rfl, Lib.hid (by simp [bsize])⟩
      case round =>
        obtain ⟨j, z, hj, rfl, rfl, HZ⟩ := hrel
        have hzz := HSUM.out a.names.length j
        rw [List.take_length] at hzz
        have hzl : (z : Int) ≤ 1099511627776 := by have := HZ.out; have := HY0.out; omega
        by_cases hlt : j < n2
        · have hlt2 : j < a.bs.length := by rw [← HN2.out]; exact hlt
          have q2 : (j : Int) < (n2 : Int) := by omega
          obtain ⟨b, off, u, rfl, hFb, hc, hu⟩ := HBL.out.elem j hlt2
          have hbz : b < w.heap.size := HF.out b hFb
          obtain ⟨ua, uc, rfl, hul⟩ := hu.slice
          have h2 := HSUM.out a.names.length (j + 1)
          rw [List.take_length] at h2
          have h3 := bsize_take a.bs j hlt2
          obtain ⟨x, hx⟩ : ∃ x, x = a.bs[j].length := ⟨_, rfl⟩
          rw [← hx] at hc h3
          have h5 : x ≤ 1099511627776 := by omega
          have HN' : Hid (z + (x + 1) = y + bsize (a.bs.take (j + 1))) := Lib.hid (by have := HZ.out; omega)
          have h6 : (z : Int) + ((x : Int) + 1) ≤ 1099511627776 := by have := HZ.out; have := HY0.out; omega
          clear hx h2 h3 hzz hlt2 hu hul
          go_wp2_with fail
          go_round
          case rel => exact ⟨j + 1, z + (x + 1), by omega, by go_num, by go_num, HN'⟩
          case measure => simp [intOf]; omega
        · have q2 : ¬ (j : Int) < (n2 : Int) := by omega
          obtain rfl : j = n2 := by omega
          have HE : Hid (z = asize a) := Lib.hid (by
            have h1 := HZ.out
            rw [HN2.out, List.take_length] at h1
            have := HY0.out
            have := HN4.out
            unfold asize
            omega)
          clear hzz
          go_wp2_with fail
          go_ret
          exact ⟨by rw [← HE.out]; rfl, below_alloc _ _⟩
end Go.Proofs.Ytgiipkmkmomofaa.M
