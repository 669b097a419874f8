/- The document's own reading of shapes: its parts' ends are where pShape leaves off. -/
import Derived.Test.YtdngfbljcmbniaaTM4
namespace Go.Proofs.Ytdngfbljcmbniaa.M
open Go.RowKit

def EndPost (s : ByteArray) (w : World) (r : Option (List UInt8)) (e : Ending) (w' : World) : Prop :=
  w = w' ∧ match r with
  | none => e = .returned (.int .i64 (-1))
  | some rest => ∃ k : Nat, e = .returned (.int .i64 (k : Int)) ∧ k ≤ s.size ∧ rest = s.data.toList.drop k

def EndSaid (d : Nat) : Prop := ∀ (s : ByteArray) (k : Nat) (a nest : Int) (w : World), a = (k : Int) → s.size ≤ 64 → k ≤ s.size → nest = 9 - (d : Int) → d ≤ 9 →
  Calls Try.prog 55 #[.string s, .int .i64 a, .int .i64 nest] w (EndPost s w ((pShape d (s.data.toList.drop k)).map (·.2)))

/-- The state at the head of the loop over a row's parts. -/
def EndAt (s : ByteArray) (k d k1 : Nat) : Prop :=
  ∃ l : List Sh, k + 1 ≤ k1 ∧ k1 ≤ s.size ∧ l.length ≤ k1 - (k + 1) ∧
    pRow (pShape d) (s.size - (k + 1) + 1) (s.data.toList.drop (k + 1)) = cat l (pRow (pShape d) (s.size - (k + 1) + 1 - l.length) (s.data.toList.drop k1))

theorem ret_cast {a b : Int} (h : a = b) : Ending.returned (.int .i64 a) = .returned (.int .i64 b) := by rw [h]

theorem end_out {d k : Nat} {s : ByteArray} {nest : Int} {w : World} (hs : s.size ≤ 64) (hk : k ≤ s.size) (hn : nest = 9 - (d : Int)) (h : ¬ k < s.size ∨ d = 0) :
    Calls Try.prog 55 #[.string s, .int .i64 (k : Int), .int .i64 nest] w (EndPost s w ((pShape d (s.data.toList.drop k)).map (·.2))) := by
  have HP : Hid (pShape d (s.data.toList.drop k) = none) := Lib.hid (by
    rcases h with h | h
    · rw [List.drop_eq_nil_of_le (by simp; omega), pShape_end]
    · subst h; simp [pShape])
  by_cases hk2 : k < s.size
  · have hn1 : 8 < nest := by omega
    have hlt : ¬ (s.size : Int) ≤ (k : Int) := by omega
    clear hn h
    go_enter Try.func55, Try.ntmps55
    go_wp2
    go_ret
    rw [HP.out]
    exact ⟨rfl, rfl⟩
  · have hlt : (s.size : Int) ≤ (k : Int) := by omega
    clear hn h
    go_enter Try.func55, Try.ntmps55
    go_wp2
    all_goals
      go_ret
      rw [HP.out]
      exact ⟨rfl, rfl⟩

set_option maxRecDepth 20000 in
set_option maxHeartbeats 800000 in
theorem end_of {d : Nat} (hp : EndSaid d) : EndSaid (d + 1) := by
  rintro s k _ nest w rfl hs hk hn hd
  by_cases hk2 : k < s.size
  · have HC : Hid (s.data.toList.drop k = s[k] :: s.data.toList.drop (k + 1)) := Lib.hid (drop_cons s k hk2)
    have hn1 : nest ≤ 8 := by omega
    have hn0 : 0 ≤ nest := by omega
    have Hn := Lib.hid hn
    have HP : Hid (EndSaid d) := Lib.hid hp
    have HLn : Hid ((s.data.toList.drop (k + 1)).length = s.size - (k + 1)) := Lib.hid (by simp)
    have hlt : ¬ (s.size : Int) ≤ (k : Int) := by omega
    clear hn hp
    go_enter Try.func55, Try.ntmps55
    go_wp2_with fail
    · have ht : (s[k].toNat : Int) = 110 := by simpa using ‹((s[k].toNat : Int) == 110) = true›
      go_ret
      rw [HC.out, pShape_cons, ht]
      exact ⟨rfl, k + 1, ret_cast rfl, by omega, rfl⟩
    · have ht : (s[k].toNat : Int) = 98 := by simpa using ‹((s[k].toNat : Int) == 98) = true›
      go_ret
      rw [HC.out, pShape_cons, ht]
      exact ⟨rfl, k + 1, ret_cast rfl, by omega, rfl⟩
    · have HT : Hid ((s[k].toNat : Int) = 42) := Lib.hid (by simpa using ‹((s[k].toNat : Int) == 42) = true›)
      refine (HP.out s (k + 1) _ (nest + 1) _ (by omega) hs (by omega) (by rw [Hn.out]; omega) (by omega)).mono ?_
      rintro e1 w1 ⟨rfl, hr⟩
      have HR : Hid (EndPost s w (((pShape d (s.data.toList.drop (k + 1))).map fun x => (Sh.list x.1, x.2)).map (·.2)) e1 w) := Lib.hid ⟨rfl, by
        cases hq : pShape d (s.data.toList.drop (k + 1)) with
        | none => rw [hq] at hr; exact hr
        | some x => rw [hq] at hr; exact hr⟩
      obtain ⟨n, rfl⟩ : ∃ n : Int, e1 = .returned (.int .i64 n) := by
        cases hq : pShape d (s.data.toList.drop (k + 1)) with
        | none => rw [hq] at hr; exact ⟨_, hr⟩
        | some x => rw [hq] at hr; obtain ⟨n, h, _⟩ := hr; exact ⟨_, h⟩
      clear hr
      go_wp2_with fail
      go_ret
      rw [HC.out, pShape_cons, HT.out]
      exact HR.out
    · have HT : Hid ((s[k].toNat : Int) = 91) := Lib.hid (by simpa using ‹((s[k].toNat : Int) == 91) = true›)
      go_loop [1] (fun i => ∃ k1 : Nat, i = .int .i64 (k1 : Int) ∧ EndAt s k d k1) (fun i => s.size - (intOf i).toNat)
      case atStart => exact ⟨k + 1, by go_num, [], by omega, by omega, by simp, cat_nil _⟩
      case round =>
        obtain ⟨k1, rfl, l, hk3, hk4, hl, hsp⟩ := hrel
        have HS := Lib.hid hsp
        clear hsp
        by_cases hk5 : k1 < s.size
        · have HD : Hid (s.data.toList.drop k1 = s[k1] :: s.data.toList.drop (k1 + 1)) := Lib.hid (drop_cons s k1 hk5)
          have e93 := byte_lit s[k1] 93 (by decide)
          simp only [Int.cast_ofNat_Int] at e93
          by_cases h93 : (((s[k1].toNat : Int) != 93) = true)
          · have hb9 : s[k1] ≠ 93 := by
              intro h; rw [h] at h93; simp at h93
            clear e93
            go_wp2_with fail
            refine (HP.out s k1 _ (nest + 1) _ rfl hs (by omega) (by rw [Hn.out]; omega) (by omega)).mono ?_
            rintro e1 w1 ⟨rfl, hr⟩
            cases hq : pShape d (s.data.toList.drop k1) with
            | none =>
              rw [hq] at hr
              replace hr : e1 = .returned (.int .i64 (-1)) := hr
              subst hr
              have Hq := Lib.hid hq
              clear hq
              go_wp2_with fail
              go_ret
              have Hq1 := Hq.out
              rw [HD.out] at Hq1
              refine ⟨rfl, ?_⟩
              rw [HC.out, pShape_cons, HT.out]
              simp only [Int.reduceBEq, Bool.false_eq_true, if_false, if_true]
              rw [HLn.out, HS.out, HD.out, show s.size - (k + 1) + 1 - l.length = (s.size - (k + 1) - l.length) + 1 from by omega, cat_fails hb9 Hq1]
              rfl
            | some x =>
              obtain ⟨sh, rest⟩ := x
              rw [hq] at hr
              obtain ⟨k2, rfl, hk6, hrest⟩ := hr
              replace hrest : rest = s.data.toList.drop k2 := hrest
              have hlt2 : ¬ ((k2 : Nat) : Int) < 0 := by omega
              have hk7 : k1 < k2 := by
                have := pShape_less _ _ _ _ hq
                rw [hrest] at this
                simp at this
                omega
              have HE : Hid (EndAt s k d k2) := Lib.hid (by
                refine ⟨l ++ [sh], by omega, hk6, by simp; omega, ?_⟩
                have hq2 := hq
                rw [HD.out] at hq2
                rw [HS.out, HD.out, show s.size - (k + 1) + 1 - l.length = (s.size - (k + 1) - l.length) + 1 from by omega, cat_step hb9 hq2, hrest]
                simp [Nat.sub_sub])
              clear hq hrest
              go_wp2_with fail
              go_round
              case rel => exact ⟨k2, rfl, HE.out⟩
              case measure => simp [intOf]; omega
          · have hb9 : s[k1] = 93 := by
              have h : ((s[k1].toNat : Int) == 93) = true := by simpa using h93
              rw [e93] at h
              simpa using h
            have HB := Lib.hid hb9
            clear hb9 e93
            go_wp2_with fail
            go_ret
            refine ⟨rfl, ?_⟩
            rw [HC.out, pShape_cons, HT.out]
            simp only [Int.reduceBEq, Bool.false_eq_true, if_false, if_true]
            rw [HLn.out, HS.out, HD.out, show s.size - (k + 1) + 1 - l.length = (s.size - (k + 1) - l.length) + 1 from by omega, HB.out, cat_ends]
            exact ⟨k1 + 1, ret_cast (by omega), by omega, rfl⟩
        · have HD : Hid (s.data.toList.drop k1 = []) := Lib.hid (List.drop_eq_nil_of_le (by simp; omega))
          have hlt3 : ¬ (k1 : Int) < (s.size : Int) := by omega
          go_wp2_with fail
          go_ret
          refine ⟨rfl, ?_⟩
          rw [HC.out, pShape_cons, HT.out]
          simp only [Int.reduceBEq, Bool.false_eq_true, if_false, if_true]
          rw [HLn.out, HS.out, HD.out, cat_short]
          rfl
    · have h1 : ((s[k].toNat : Int) == 110) = false := by assumption
      have h2 : ((s[k].toNat : Int) == 98) = false := by assumption
      have h3 : ((s[k].toNat : Int) == 42) = false := by assumption
      have h4 : ((s[k].toNat : Int) == 91) = false := by assumption
      go_ret
      rw [HC.out, pShape_cons, h1, h2, h3, h4]
      exact ⟨rfl, rfl⟩
  · exact end_out hs hk hn (.inl hk2)

theorem ends : ∀ d, EndSaid d
  | 0 => by
    rintro s k _ nest w rfl hs hk hn hd
    exact end_out hs hk hn (.inr rfl)
  | d + 1 => end_of (ends d)
end Go.Proofs.Ytdngfbljcmbniaa.M
