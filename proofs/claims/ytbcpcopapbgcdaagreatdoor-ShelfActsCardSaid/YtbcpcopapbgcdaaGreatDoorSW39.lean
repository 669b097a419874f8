/- The document's forms read: a number at a place. -/
import Derived.Test.YtbcpcopapbgcdaaGreatDoorSW23
import Derived.Test.YtbcpcopapbgcdaaGreatDoorSW38
import Derived.OwnWalk
namespace Go.Proofs.YtbcpcopapbgcdaaGreatDoor.M
open Go.RowKit

theorem RepB.elem {w : World} {F : Nat → Prop} {L : List UInt8} {a : Option Addr} {n c : Nat} (h : RepB w F L (.slice a n c)) {i : Nat} (hi : i < L.length) :
    ∃ b off, a = some ⟨b, off, none⟩ ∧ F b ∧ ∀ (j : Nat) (hj : j < L.length), w.cell? ⟨b, off + j, none⟩ = some (.int .u8 (L[j].toNat : Int)) := by
  rcases h with ⟨h, _⟩ | ⟨b, off, c', h, hb, _, _, hc⟩
  · rw [h] at hi; simp at hi
  · cases h
    exact ⟨b, off, rfl, hb, hc⟩

/-- The number of the first so many digits. -/
def nf (R : List UInt8) (i : Nat) : Nat := (R.take i).foldl (fun n d => n * 256 + d.toNat) 0

theorem nf_succ {R : List UInt8} {i : Nat} (h : i < R.length) : nf R (i + 1) = nf R i * 256 + R[i].toNat := by
  unfold nf
  rw [List.take_succ_eq_append_getElem h, List.foldl_append]
  rfl

theorem nf_lt (R : List UInt8) : ∀ i, nf R i < 256 ^ i
  | 0 => by simp [nf]
  | i + 1 => by
    have ih := nf_lt R i
    rcases Nat.lt_or_ge i R.length with h | h
    · rw [nf_succ h, Nat.pow_succ]
      have := R[i].toNat_lt
      omega
    · have e : nf R (i + 1) = nf R i := by
        unfold nf
        rw [List.take_of_length_le h, List.take_of_length_le (by omega)]
      rw [e]
      exact Nat.lt_of_lt_of_le ih (Nat.pow_le_pow_right (by omega) (by omega))

/-- What the reading of a number at a place answers. -/
def numR (L : List UInt8) (k : Nat) : Value :=
  match takeNum (L.drop k) with
  | .error e => .tuple #[.int .u64 0, .int .i64 (k : Int), .int .i64 e]
  | .ok (n, r) => .tuple #[.int .u64 (n : Int), .int .i64 ((L.length - r.length : Nat) : Int), .int .i64 0]

theorem numR_err {L : List UInt8} {k : Nat} {e : Int} (h : takeNum (L.drop k) = .error e) : numR L k = .tuple #[.int .u64 0, .int .i64 (k : Int), .int .i64 e] := by
  unfold numR; rw [h]

theorem numR_ok {L r : List UInt8} {k n : Nat} (h : takeNum (L.drop k) = .ok (n, r)) : numR L k = .tuple #[.int .u64 (n : Int), .int .i64 ((L.length - r.length : Nat) : Int), .int .i64 0] := by
  unfold numR; rw [h]

theorem takeNum_at {L : List UInt8} {k : Nat} (h : k < L.length) : takeNum (L.drop k) = if 8 < L[k].toNat then .error 13
    else if 0 < L[k].toNat ∧ (L.drop (k + 1)).head? = some 0 then .error 13
    else if (L.drop (k + 1)).length < L[k].toNat then .error 11
    else .ok (nf (L.drop (k + 1)) L[k].toNat, (L.drop (k + 1)).drop L[k].toNat) := by
  rw [List.drop_eq_getElem_cons h]
  rfl

set_option maxRecDepth 20000 in
set_option maxHeartbeats 3200000 in
theorem RefNum_any (L : List UInt8) (F : Nat → Prop) (v : Value) (k : Nat) (w : World) (hv : RepB w F L v) (hL : L.length ≤ 1099511627776) (hk : k ≤ L.length) :
    Calls Tryz.prog 131 #[v, .int .i64 (k : Int)] w fun e w' => e = .returned (numR L k) ∧ w = w' := by
  obtain ⟨a, c, rfl, -⟩ := hv.slice
  have HV := Lib.hid hv
  clear hv
  by_cases hlt : k < L.length
  · have hkk : (L.length : Int) ≤ (k : Int) → False := by omega
    have hkd : decide ((L.length : Int) ≤ (k : Int)) = false := by simp; omega
    obtain ⟨b, off, rfl, hFb, hcall⟩ := HV.out.elem hlt
    have hcb := hcall k hlt
    have hat := takeNum_at hlt
    obtain ⟨s, hs⟩ : ∃ s, s = L[k].toNat := ⟨_, rfl⟩
    obtain ⟨R, hR⟩ : ∃ R, R = L.drop (k + 1) := ⟨_, rfl⟩
    rw [← hs, ← hR] at hat
    rw [← hs] at hcb
    have HRL : Hid (R.length + (k + 1) = L.length) := Lib.hid (by rw [hR, List.length_drop]; omega)
    have HCR : Hid (∀ (i : Nat) (h : i < R.length), w.cell? ⟨b, off + (k + 1 + i), none⟩ = some (.int .u8 (R[i].toNat : Int))) := Lib.hid fun i h => by
      rw [hcall (k + 1 + i) (by have := HRL.out; omega)]
      simp only [hR, List.getElem_drop]
    have hs8 : s < 256 := by rw [hs]; exact L[k].toNat_lt
    have HAT := Lib.hid hat
    have hLi : (L.length : Int) ≤ 1099511627776 := by omega
    have hki : (k : Int) < (L.length : Int) := by omega
    clear hs hR hat hkk hcall
    by_cases h8 : 8 < s
    · have HE : Hid (numR L k = _) := Lib.hid (numR_err (by rw [HAT.out, if_pos h8]))
      have q1 : (8 : Int) < (s : Int) := by omega
      clear h8
      go_enter Tryz.func131, Tryz.ntmps131
      go_wp2_with fail
      go_ret3
      exact ⟨by rw [HE.out]; rfl, rfl⟩
    · have q1 : decide ((8 : Int) < (s : Int)) = false := by simp; omega
      have H8 : Hid (¬ 8 < s) := Lib.hid h8
      have hs9 : s ≤ 8 := by omega
      clear h8
      go_enter Tryz.func131, Tryz.ntmps131
      go_wp2_with fail
      go_loop [8, 9] (fun n i => ∃ j m : Nat, j ≤ s ∧ j ≤ R.length ∧ i = .int .i64 (j : Int) ∧ n = .int .u64 (m : Int) ∧ Hid (m = nf R j) ∧ Hid (0 < j → R.head? ≠ some 0)) (fun _ i => s - (intOf i).toNat)
      case atStart => exact ⟨0, 0, Nat.zero_le _, Nat.zero_le _, rfl, rfl, Lib.hid rfl, Lib.hid fun h => by omega⟩
      case round =>
        obtain ⟨j, m, hj, hjR, rfl, rfl, HM, HH⟩ := hrel
        by_cases hjs : j < s
        · have q2 : (j : Int) < (s : Int) := by omega
          by_cases hjl : j < R.length
          · have q3 : decide ((L.length : Int) ≤ (k : Int) + 1 + (j : Int)) = false := by have := HRL.out; simp; omega
            have hcj := HCR.out j hjl
            obtain ⟨x, hx⟩ : ∃ x, x = R[j] := ⟨_, rfl⟩
            rw [← hx] at hcj
            have HX := Lib.hid hx
            have hx8 : x.toNat < 256 := x.toNat_lt
            have hm8 : (m : Int) < 72057594037927936 := by
              have h1 := nf_lt R j
              rw [← HM.out] at h1
              have h2 : 256 ^ j ≤ 256 ^ 7 := Nat.pow_le_pow_right (by omega) (by omega)
              omega
            have hil : (k : Int) + 1 + (j : Int) < (L.length : Int) := by have := HRL.out; omega
            have HN : Hid (256 * m + x.toNat = nf R (j + 1)) := Lib.hid (by rw [nf_succ hjl, ← HM.out, ← HX.out]; omega)
            clear hx
            by_cases hj0 : j = 0
            · have HJ0 := Lib.hid hj0
              have q4 : ((j : Int) == 0) = true := by simp [hj0]
              have hc0 : w.cell? ⟨b, off + (k + 1), none⟩ = some (.int .u8 (x.toNat : Int)) := by
                have h1 := hcj
                rw [hj0] at h1
                exact h1
              have hil0 : (k : Int) + 1 < (L.length : Int) := by omega
              clear hj0
              by_cases hx0 : x.toNat = 0
              · have HE : Hid (numR L k = _) := Lib.hid (numR_err (e := 13) (by
                  rw [HAT.out, if_neg H8.out, if_pos]
                  refine ⟨by omega, ?_⟩
                  have h1 : 0 < R.length := by omega
                  rw [List.head?_eq_getElem?, List.getElem?_eq_getElem h1]
                  have h2 := HX.out
                  simp only [HJ0.out] at h2
                  rw [← h2]
                  exact congrArg some (UInt8.toNat_inj.1 (by rw [hx0]; rfl))))
                have q5 : ((x.toNat : Int) == 0) = true := by simp [hx0]
                clear hx0
                go_wp2_with fail
                go_ret3
                exact ⟨by rw [HE.out]; rfl, rfl⟩
              · have q5 : ((x.toNat : Int) == 0) = false := beq_eq_false_iff_ne.2 (by omega)
                have HH2 : Hid (0 < j + 1 → R.head? ≠ some 0) := Lib.hid fun _ h => by
                  have h1 : 0 < R.length := by omega
                  rw [List.head?_eq_getElem?, List.getElem?_eq_getElem h1] at h
                  have h2 := HX.out
                  simp only [HJ0.out] at h2
                  rw [← h2] at h
                  cases h
                  exact hx0 rfl
                have HX0 := Lib.hid hx0
                clear hx0
                go_wp2_with fail
                go_round
                case rel => exact ⟨j + 1, 256 * m + x.toNat, by omega, by omega, by go_num, by go_num, HN, HH2⟩
                case measure => simp [intOf]; omega
            · have q4 : ((j : Int) == 0) = false := beq_eq_false_iff_ne.2 (by omega)
              have HH2 : Hid (0 < j + 1 → R.head? ≠ some 0) := Lib.hid fun _ => HH.out (by omega)
              clear hj0
              go_wp2_with fail
              go_round
              case rel => exact ⟨j + 1, 256 * m + x.toNat, by omega, by omega, by go_num, by go_num, HN, HH2⟩
              case measure => simp [intOf]; omega
          · have q3 : (L.length : Int) ≤ (k : Int) + 1 + (j : Int) := by have := HRL.out; omega
            have HE : Hid (numR L k = _) := Lib.hid (numR_err (e := 11) (by
              rw [HAT.out, if_neg H8.out, if_neg, if_pos (by omega)]
              rintro ⟨h1, h2⟩
              rcases Nat.eq_zero_or_pos j with h3 | h3
              · have h4 : R = [] := List.length_eq_zero_iff.1 (by omega)
                rw [h4] at h2; simp at h2
              · exact HH.out h3 h2))
            clear hjl
            go_wp2_with fail
            go_ret3
            exact ⟨by rw [HE.out]; rfl, rfl⟩
        · have q2 : decide ((j : Int) < (s : Int)) = false := by simp; omega
          obtain rfl : j = s := by omega
          have HE : Hid (numR L k = .tuple #[.int .u64 (m : Int), .int .i64 ((k : Int) + 1 + (j : Int)), .int .i64 0]) := Lib.hid (by
            rw [numR_ok (n := m) (r := R.drop j) (by
              rw [HAT.out, if_neg H8.out, if_neg, if_neg (by omega), HM.out]
              rintro ⟨h1, h2⟩
              exact HH.out h1 h2)]
            have e : ((L.length - (R.drop j).length : Nat) : Int) = (k : Int) + 1 + (j : Int) := by
              rw [List.length_drop]
              have := HRL.out
              omega
            rw [e])
          clear hjs
          go_wp2_with fail
          go_ret3
          exact ⟨by rw [HE.out]; rfl, rfl⟩
  · obtain rfl : k = L.length := by omega
    have HE : Hid (numR L L.length = _) := Lib.hid (numR_err (e := 11) (by rw [List.drop_length]; rfl))
    clear hlt hk
    go_enter Tryz.func131, Tryz.ntmps131
    go_wp2_with fail
    go_ret3
    exact ⟨by rw [HE.out]; rfl, rfl⟩
end Go.Proofs.YtbcpcopapbgcdaaGreatDoor.M
