/- The reader of package mould: digits, cut. -/
import Derived.Test.YtafodaoehnggfaaMouldSame2
namespace Go.Proofs.Ytafodaoehnggfaa.M
open Go.RowKit

/-- A reader: a variable that holds the bytes that are left. -/
def ReadAt (w : World) (rb : Nat) (v : Value) : Prop := w.heap[rb]? = some (.cells #[v] 60)

/-- Digits to the base 256, the greatest first, as a number. -/
def fold256 (l : List UInt8) : Nat := l.foldl (fun n d => n * 256 + d.toNat) 0

theorem fold256_snoc (l : List UInt8) (d : UInt8) : fold256 (l ++ [d]) = fold256 l * 256 + d.toNat := by simp [fold256]

theorem foldl_lt : ∀ (l : List UInt8) (n : Nat), l.foldl (fun n d => n * 256 + d.toNat) n < (n + 1) * 256 ^ l.length
  | [], n => by simp
  | d :: l, n => by
    have h := foldl_lt l (n * 256 + d.toNat)
    have hd := d.toNat_lt
    rw [List.foldl_cons, List.length_cons, Nat.pow_succ]
    refine Nat.lt_of_lt_of_le h ?_
    rw [Nat.mul_comm (256 ^ l.length) 256, ← Nat.mul_assoc]
    exact Nat.mul_le_mul_right _ (by omega)

theorem fold256_lt (l : List UInt8) : fold256 l < 256 ^ l.length := by
  have := foldl_lt l 0
  simpa [fold256] using this

theorem wraps_u64 (n : Int) (h0 : 0 ≤ n) (h1 : n < 2 ^ 64) : IntKind.u64.wrap n = n := IntWalk.u64_in n (by omega)

/-- 'n << 8 | d'. -/
theorem shl_or (f d : Nat) (hf : f < 72057594037927936) (hd : d ≤ 255) : bits .or .u64 (IntKind.u64.wrap ((f : Int) * 256)) (d : Int) = ((f * 256 + d : Nat) : Int) := by
  rw [IntWalk.u64_in _ (by omega), bits_join .u64 64 (by decide) wraps_u64 8 _ _ (by omega) (by omega) (by omega) (by omega) (by omega) (by omega)]
  omega

/-- Bytes, the first of them left out. -/
theorem RepB.drop1 {w : World} {F : Nat → Prop} {L : List UInt8} {b off n c k o' n' c' : Nat} (h : RepB w F L (.slice (some ⟨b, off, none⟩) n c)) (hk : k ≤ L.length) (ho : o' = off + k) (hn : n' = L.length - k) (hc : c' = c - k) :
    RepB w F (L.drop k) (.slice (some ⟨b, o', none⟩) n' c') := by
  rcases h with ⟨rfl, a, c1, h, h1, _⟩ | ⟨b, off, c, hv, hb, h1, h2, hcell⟩
  · cases h
    simp at hk
    subst hk ho hn hc
    exact .inl ⟨rfl, Bare.at (by omega)⟩
  · cases hv
    subst ho hn hc
    refine .inr ⟨b, off + k, c - k, by simp, hb, by simp; omega, by omega, fun i hi => ?_⟩
    rw [List.length_drop] at hi
    rw [show off + k + i = off + (k + i) from by omega, hcell (k + i) (by omega), List.getElem_drop]

theorem RepB.drop2 {w : World} {F : Nat → Prop} {L : List UInt8} {b off n c k n' c' : Nat} (h : RepB w F L (.slice (some ⟨b, off, none⟩) n c)) (hk : k = L.length) (hn : n' = 0) (hc : c' ≤ c) :
    RepB w F (L.drop k) (.slice (some ⟨b, off, none⟩) n' c') := by
  rcases h with ⟨rfl, a, c1, h, h1, _⟩ | ⟨b, off, c, hv, hb, h1, h2, hcell⟩
  · cases h
    subst hn
    exact .inl ⟨by simp, Bare.at (by omega)⟩
  · cases hv
    subst hk hn
    rw [List.drop_length]
    exact .inr ⟨b, off, c', rfl, hb, by simp, by omega, fun i hi => by simp at hi⟩

def DigPost (w : World) (rb : Nat) (F : Nat → Prop) (r : Except Int (Nat × List UInt8)) (e : Ending) (w' : World) : Prop :=
  match r with
  | .error c => e = .returned (.tuple #[.int .u64 0, .int .i64 c]) ∧ w = w'
  | .ok (n, l) => ∃ v, e = .returned (.tuple #[.int .u64 (n : Int), .int .i64 0]) ∧ w' = w.setCell ⟨rb, 0, none⟩ v ∧ RepB w F l v

set_option maxHeartbeats 1600000 in
theorem digits_any (rb : Nat) (F : Nat → Prop) (L : List UInt8) (v : Value) (w : World) (hr : ReadAt w rb v) (hv : RepB w F L v) :
    Calls Try.prog 42 #[.pointer (some ⟨rb, 0, none⟩)] w (DigPost w rb F (takeNum L)) := by
  obtain ⟨va, vc, rfl, hL⟩ := hv.slice
  obtain ⟨r0, r1, hrb⟩ := block1 hr
  have HV := Lib.hid hv
  clear hv hr
  cases L with
  | nil =>
    go_enter Try.func42, Try.ntmps42
    go_wp2_with fail
    go_ret2
    exact ⟨rfl, rfl⟩
  | cons c0 R =>
    have HV2 := HV.out
    rcases HV2 with ⟨h, _⟩ | ⟨b, off, c, hsl, hb, h1, h2, hc⟩
    · cases h
    · cases hsl
      have e0 : w.cell? ⟨b, off, none⟩ = some (.int .u8 (c0.toNat : Int)) := by have := hc 0 (by simp); simpa using this
      have HC := Lib.hid hc
      simp only [List.length_cons] at h1 hL
      clear hc
      have hz : c0.toNat ≤ 255 := by have := c0.toNat_lt; omega
      have HT0 : Hid (takeNum (c0 :: R) = if 8 < c0.toNat then .error 13 else if 0 < c0.toNat ∧ R.head? = some 0 then .error 13 else if R.length < c0.toNat then .error 11
        else .ok ((R.take c0.toNat).foldl (fun n d => n * 256 + d.toNat) 0, R.drop c0.toNat)) := Lib.hid (by rw [takeNum])
      generalize takeNum (c0 :: R) = TN at *
      have HC1 : Hid (∀ (i : Nat) (h : i < R.length), w.cell? ⟨b, off + 1 + i, none⟩ = some (.int .u8 (R[i].toNat : Int))) := Lib.hid fun i h => by
        have := HC.out (i + 1) (by simpa using h)
        rw [show off + 1 + i = off + (i + 1) from by omega]
        simpa using this
      clear HC
      generalize c0.toNat = z at *
      by_cases hs8 : 8 < z
      · have HT : Hid (TN = .error 13) := Lib.hid (by rw [HT0.out, if_pos hs8])
        have hs9 : (8 : Int) < (z : Int) := by omega
        go_enter Try.func42, Try.ntmps42
        go_wp2_with fail
        go_ret2
        rw [HT.out]
        exact ⟨rfl, rfl⟩
      · have hs9 : ¬ (8 : Int) < (z : Int) := by omega
        by_cases hz0 : 0 < z
        · have hz1 : (0 : Int) < (z : Int) := by omega
          cases R with
          | nil =>
            have HT : Hid (TN = .error 11) := Lib.hid (by rw [HT0.out, if_neg hs8, if_neg (by simp), if_pos (by simpa using hz0)])
            simp only [List.length_nil] at h1 hL r0 ⊢
            go_enter Try.func42, Try.ntmps42
            go_wp2_with fail
            go_ret2
            rw [HT.out]
            exact ⟨rfl, rfl⟩
          | cons c1 R2 =>
            have e1 : w.cell? ⟨b, off + 1, none⟩ = some (.int .u8 (c1.toNat : Int)) := by have := HC1.out 0 (by simp); simpa using this
            by_cases hc1 : c1 = 0
            · have HT : Hid (TN = .error 13) := Lib.hid (by rw [HT0.out, if_neg hs8, if_pos ⟨hz0, by simp [hc1]⟩])
              subst hc1
              go_enter Try.func42, Try.ntmps42
              go_wp2_with fail
              go_ret2
              rw [HT.out]
              exact ⟨rfl, rfl⟩
            · have hc2 : ((c1.toNat : Int) == 0) = false := by
                have e := byte_lit c1 0 (by decide)
                rw [show UInt8.ofNat 0 = 0 from rfl, decide_eq_false hc1] at e
                exact e
              by_cases hlen : (c1 :: R2).length < z
              · have HT : Hid (TN = .error 11) := Lib.hid (by rw [HT0.out, if_neg hs8, if_neg (by simp [hc1]), if_pos hlen])
                simp only [List.length_cons] at hlen
                go_enter Try.func42, Try.ntmps42
                go_wp2_with fail
                go_ret2
                rw [HT.out]
                exact ⟨rfl, rfl⟩
              · have HT : Hid (TN = .ok (((c1 :: R2).take z).foldl (fun n d => n * 256 + d.toNat) 0, (c1 :: R2).drop z)) := Lib.hid (by rw [HT0.out, if_neg hs8, if_neg (by simp [hc1]), if_neg hlen])
                simp only [List.length_cons] at hlen h1
                go_enter Try.func42, Try.ntmps42
                go_wp2_with fail
                go_loop [5, 57] (fun n i => ∃ k : Nat, i = .int .i64 (k : Int) ∧ n = .int .u64 ((fold256 ((c1 :: R2).take k) : Nat) : Int) ∧ k ≤ z) (fun _ i => z - (intOf i).toNat)
                case atStart => exact ⟨0, rfl, rfl, by omega⟩
                case round =>
                  obtain ⟨k, rfl, rfl, hk⟩ := hrel
                  by_cases hkz : k < z
                  · have hkR : k < (c1 :: R2).length := by simp; omega
                    have hcell := HC1.out k hkR
                    have hd : (c1 :: R2)[k].toNat ≤ 255 := by have := (c1 :: R2)[k].toNat_lt; omega
                    generalize hdd : (c1 :: R2)[k].toNat = d at *
                    generalize hff : fold256 ((c1 :: R2).take k) = f at *
                    have HDD := Lib.hid hdd
                    have HFF := Lib.hid hff
                    clear hdd hff
                    go_wp2_with fail
                    go_round
                    case rel =>
                      refine ⟨k + 1, by go_num, ?_, by omega⟩
                      have hf : f < 72057594037927936 := by
                        have := fold256_lt ((c1 :: R2).take k)
                        rw [HFF.out] at this
                        have h7 : ((c1 :: R2).take k).length ≤ 7 := by rw [List.length_take]; omega
                        exact Nat.lt_of_lt_of_le this (Nat.pow_le_pow_right (n := 256) (by omega) h7)
                      rw [shl_or f d hf hd, List.take_add_one, List.getElem?_eq_getElem hkR, Option.toList_some, fold256_snoc, HFF.out, HDD.out]
                    case measure => simp [intOf]; omega
                  · have hkz2 : k = z := by omega
                    subst hkz2
                    go_wp2_with fail
                    all_goals go_ret2
                    all_goals rw [HT.out]
                    · exact ⟨_, rfl, rfl, HV.out.drop2 (k := k + 1) (by simp at *; omega) (by omega) (by omega)⟩
                    · exact ⟨_, rfl, rfl, HV.out.drop1 (k := k + 1) (by simp; omega) (by omega) (by simp; omega) (by omega)⟩
        · obtain rfl : z = 0 := by omega
          have HT : Hid (TN = .ok (0, R)) := Lib.hid (by rw [HT0.out, if_neg hs8, if_neg (by simp), if_neg (by omega)]; simp)
          simp only [List.length_cons] at r0
          go_enter Try.func42, Try.ntmps42
          go_wp2_with fail
          all_goals (refine wp_loop_rounds 1 ?_; rw [rounds_succ])
          all_goals go_wp2_with fail
          all_goals go_ret2
          all_goals rw [HT.out]
          all_goals refine ⟨_, rfl, rfl, ?_⟩
          · exact HV.out.drop2 (k := 1) (by rw [List.length_cons]; omega) (by omega) (by omega)
          · exact HV.out.drop1 (k := 1) (by simp) rfl (by simp) rfl

/-- Bytes, the first of them alone. -/
theorem RepB.take1 {w : World} {F : Nat → Prop} {L : List UInt8} {a : Option Addr} {n c k : Nat} (h : RepB w F L (.slice a n c)) (hk : k ≤ L.length) : RepB w F (L.take k) (.slice a k c) := by
  rcases h with ⟨rfl, h⟩ | ⟨b, off, c, hv, hb, h1, h2, hcell⟩
  · obtain rfl : k = 0 := by simpa using hk
    obtain ⟨a', c', h, h1, h2⟩ := h
    cases h
    exact .inl ⟨rfl, a, c, rfl, h1, h2⟩
  · cases hv
    refine .inr ⟨b, off, c, by simp; omega, hb, by simp; omega, h2, fun i hi => ?_⟩
    rw [List.length_take] at hi
    rw [hcell i (by omega), List.getElem_take]

def CutPost (w : World) (rb : Nat) (F : Nat → Prop) (L : List UInt8) (k : Nat) (e : Ending) (w' : World) : Prop :=
  ∃ u v, e = .returned u ∧ w.grownBy w' (some rb) ∧ ReadAt w' rb v ∧ RepB w' F (L.drop k) v ∧ RepB w' (fun b => w.heap.size ≤ b ∧ b < w'.heap.size) (L.take k) u

set_option maxHeartbeats 1600000 in
theorem cut_any (rb : Nat) (F : Nat → Prop) (L : List UInt8) (v : Value) (k : Nat) (w : World) (hr : ReadAt w rb v) (hv : RepB w F L v) (hF : ∀ b, F b → b < w.heap.size ∧ b ≠ rb) (hk : k ≤ L.length)
    (hL : L.length ≤ 1099511627776) :
    Calls Try.prog 43 #[.pointer (some ⟨rb, 0, none⟩), .int .i64 (k : Int)] w (CutPost w rb F L k) := by
  obtain ⟨va, vc, rfl, _⟩ := hv.slice
  obtain ⟨r0, r1, hrb⟩ := block1 hr
  obtain ⟨ib, hib, hib0, hib1, hib2⟩ := info_parts infoByte
  have hcap : L.length ≤ vc := by
    rcases hv with ⟨rfl, h⟩ | ⟨b, off, c, h, _, h1, _⟩
    · simp
    · cases h; exact h1
  have HV := Lib.hid hv
  have HY := Lib.hid (hv.take1 hk).yields
  have HF := Lib.hid hF
  have HR := Lib.hid hr
  clear hv hr hF
  go_enter Try.func43, Try.ntmps43
  have hkl : (L.take k).length = k := by simp; omega
  have HKL := Lib.hid hkl
  clear hkl
  go_wp2_with (at_builtin; refine wpList_append_any _ rfl _ _ 29 rfl w.heap.size 5 ib (.int .u8 0) 1 1 Try.underlying29 hib hib0 hib1 hib2 rfl (by decide) _ 0 [] rfl (World.ownsRow_nil _ _ _ _) (.slice va k vc) rfl k ((L.take k).map byteV) (by have := HY.out; rw [HKL.out] at this; exact this) ?c1 ?c2 ?c3 ?_)
  case c1 => unfold maxLen; omega
  case c2 => omega
  case c3 => exact Nat.le_refl _
  intro v1 w1 happ
  rw [← List.map_take] at happ
  have hr1 : ReadAt w1 rb (.slice va L.length vc) := by
    have := happ.2.1.block rb hrb (by simp [Value.ownBlock])
    exact this.trans HR.out
  obtain ⟨c0, f0, hrb1⟩ := block1 hr1
  have HAP := Lib.hid happ
  have HR1 := Lib.hid hr1
  obtain ⟨ua, uc, rfl⟩ := owned_slice happ.1
  clear happ hr1
  simp only [Nat.zero_add] at HAP ⊢
  have hfin : ∀ v, RepB w F (L.drop k) v → CutPost w rb F L k (.returned (.slice ua k uc)) (w1.setCell ⟨rb, 0, none⟩ v) := by
    intro v hv
    have hg := HAP.out.2.1
    refine ⟨_, v, rfl, ⟨hg.os, hg.tape, hg.output, by simpa using hg.size, fun j hj hn => ?_⟩, ?_, ?_, ?_⟩
    · rw [Below.heap_setCell _ _ _ _ (fun h => hn (by simp at h; rw [h]))]
      exact hg.block j hj (by simp [Value.ownBlock])
    · have := heap_setCell_same w1 rb 0 _ _ v HR1.out
      simpa [ReadAt] using this
    · refine hv.same (fun _ h => h) fun b hb => ?_
      have hb2 := HF.out b hb
      rw [Below.heap_setCell _ _ _ _ (by simpa using hb2.2)]
      exact hg.block b hb2.1 (by simp [Value.ownBlock])
    · have hown := HAP.out.1
      have hacc := (Acc.of_app (L1 := []) HAP.out).1
      simp only [List.nil_append] at hacc
      refine (RepB.of_own hacc).same (fun b hb => by simpa using hb) fun b hb => ?_
      rw [Below.heap_setCell _ _ _ _ (by simp; omega)]
  have HFIN := Lib.hid hfin
  clear hfin
  cases va with
  | none =>
    rcases HV.out with ⟨h0, a', c', h, _, h1⟩ | ⟨b, off, c, h, _⟩
    · subst h0
      cases h
      obtain rfl := h1 rfl
      have hk0 : k = 0 := by simpa using hk
      subst hk0
      go_wp2_with fail
      go_ret
      exact HFIN.out _ (.inl ⟨rfl, Bare.nil⟩)
    · cases h
  | some ad =>
    by_cases hL0 : L = []
    · subst hL0
      have hk0 : k = 0 := by simpa using hk
      subst hk0
      have hvc : vc ≤ 9223372036854775807 := by
        rcases HV.out with ⟨_, _, _, h, h1, _⟩ | ⟨_, _, _, h, _, _, h1, _⟩
        · cases h; exact h1
        · cases h; exact h1
      go_wp2_with fail
      all_goals go_ret
      all_goals exact HFIN.out _ (.inl ⟨rfl, Bare.at (by omega)⟩)
    · obtain ⟨b, off, sp⟩ := ad
      have hsp : sp = none := by
        rcases HV.out with ⟨h, _⟩ | ⟨b, off, c, h, _⟩
        · exact absurd h hL0
        · cases h; rfl
      subst hsp
      clear hL0
      go_wp2_with fail
      all_goals go_ret
      · exact HFIN.out _ (HV.out.drop2 (by omega) (by omega) (Nat.zero_le _))
      · exact HFIN.out _ (HV.out.drop1 hk rfl rfl rfl)
end Go.Proofs.Ytafodaoehnggfaa.M
