/- Is and Same of package mould; bytes.Equal. Same of package mould. The reader of package mould: digits, cut. The reader of package mould: numbers and bytes. The reader of package mould: whichever part's reader is called. The reader of package mould: what its plain functions leave; lists. -/
import Derived.Test.YtdngfbljcmbniaaTM7
import Derived.Laws.BytesArg
/- Part: MouldSame. -/
namespace Go.Proofs.Ytdngfbljcmbniaa.M
open Go.RowKit

theorem toList_loop (s : ByteArray) : ∀ (n i : Nat) (r : List UInt8), s.size - i = n → ByteArray.toList.loop s i r = r.reverse ++ s.data.toList.drop i
  | 0, i, r, h => by
    unfold ByteArray.toList.loop
    rw [if_neg (by omega), List.drop_of_length_le (by rw [Array.length_toList]; exact Nat.le_of_sub_eq_zero h), List.append_nil]
  | n + 1, i, r, h => by
    unfold ByteArray.toList.loop
    have hi : i < s.size := by omega
    rw [if_pos hi, toList_loop s n (i + 1) _ (by omega), drop_cons s i hi, List.reverse_cons, List.append_assoc]
    congr 1
    simp only [List.singleton_append]
    congr 1
    obtain ⟨a⟩ := s; exact getElem!_pos a i hi

theorem toList_data1 (s : ByteArray) : s.toList = s.data.toList := by
  unfold ByteArray.toList
  rw [toList_loop s s.size 0 [] rfl]
  simp

theorem str_beq (a b : List UInt8) : ((strOf a).toList == (strOf b).toList) = (a == b) := by
  rw [toList_data1, toList_data1]
  rfl

/-- What Is answers. -/
def isAll (s : List UInt8) (l : List V) : Bool :=
  match shape s with
  | none => false
  | some sh => l.all (isV sh)

end Go.Proofs.Ytdngfbljcmbniaa.M

/- Part: MouldSame2. -/
namespace Go.Proofs.Ytdngfbljcmbniaa.M
open Go.RowKit

/-- One value in a new block, as a slice of one. -/
theorem RepVl.one {w w1 : World} {F G : Nat → Prop} {d : V} {x y z : Value} {g : Nat} {t : TypeId} (h : RepV w F d (.agg #[x, y, z])) (hb : w1.heap[g]? = some (.cells #[x, y, z] t))
    (hw : ∀ b, F b → w1.heap[b]? = w.heap[b]?) (hF : ∀ b, F b → G b) (hg : G g) : RepVl w1 G [d] (.slice (some ⟨g, 0, none⟩) 1 1) := by
  obtain ⟨c0, c1, c2, -, -, -, -⟩ := block3 hb
  refine .inr ⟨g, 0, 1, rfl, hg, by simp, by omega, ?_⟩
  unfold RepVs RepVs
  exact ⟨⟨_, ⟨x, y, z, rfl, c0, c1, c2⟩, h.same hF hw⟩, trivial⟩

/-- What Same answers. -/
def same (s : List UInt8) (a b : V) : Bool :=
  match putAll s [a], putAll s [b] with
  | .ok x, .ok y => x == y
  | _, _ => false

theorem PutPost.both {w w' : World} {r : Except Int (List UInt8)} {e : Ending} (h : PutPost w r e w') : ∃ v c, e = .returned (.tuple #[v, .int .i64 c]) ∧ Below w.heap.size w w' ∧
    ((∃ L, r = .ok L ∧ c = 0 ∧ RepB w' (fun b => w.heap.size ≤ b ∧ b < w'.heap.size) L v) ∨ (∃ n, r = .error n ∧ c = n)) := by
  obtain ⟨hb, h⟩ := h
  cases r with
  | error n => exact ⟨_, n, h, hb, .inr ⟨n, rfl, rfl⟩⟩
  | ok L =>
    obtain ⟨v, he, hown⟩ := h
    exact ⟨v, 0, he, hb, .inl ⟨L, rfl, rfl, .of_own hown⟩⟩

theorem putAll_error {s : List UInt8} {l : List V} {n : Int} (h : putAll s l = .error n) : n = 10 ∨ n = 2 := by
  unfold putAll at h
  split at h
  · cases h; exact .inl rfl
  · split at h
    · cases h
    · cases h; exact .inr rfl

end Go.Proofs.Ytdngfbljcmbniaa.M

/- Part: MouldTake1. -/
namespace Go.Proofs.Ytdngfbljcmbniaa.M
open Go.RowKit

/-- A reader: a variable that holds the bytes that are left. -/
def ReadAt (w : World) (rb : Nat) (v : Value) : Prop := w.heap[rb]? = some (.cells #[v] 76)

/-- Digits to the base 256, the greatest first, as a number. -/
def fold256 (l : List UInt8) : Nat := l.foldl (fun n d => n * 256 + d.toNat) 0

theorem fold256_snoc (l : List UInt8) (d : UInt8) : fold256 (l ++ [d]) = fold256 l * 256 + d.toNat := by simp [fold256]

theorem foldl_lt : ∀ (l : List UInt8) (n : Nat), l.foldl (fun n d => n * 256 + d.toNat) n < (n + 1) * 256 ^ l.length
  | [], n => by simp
  | d :: l, n => by
    have h := foldl_lt l (n * 256 + d.toNat)
    have hd := d.toNat_lt
    rw [List.foldl_cons, List.length_cons, Nat.pow_succ]
    refine Nat.lt_of_lt_of_le h ?_
    rw [Nat.mul_comm (256 ^ l.length) 256, ← Nat.mul_assoc]
    exact Nat.mul_le_mul_right _ (by omega)

theorem fold256_lt (l : List UInt8) : fold256 l < 256 ^ l.length := by
  have := foldl_lt l 0
  simpa [fold256] using this

theorem wraps_u64 (n : Int) (h0 : 0 ≤ n) (h1 : n < 2 ^ 64) : IntKind.u64.wrap n = n := IntWalk.u64_in n (by omega)

/-- 'n << 8 | d'. -/
theorem shl_or (f d : Nat) (hf : f < 72057594037927936) (hd : d ≤ 255) : bits .or .u64 (IntKind.u64.wrap ((f : Int) * 256)) (d : Int) = ((f * 256 + d : Nat) : Int) := by
  rw [IntWalk.u64_in _ (by omega), bits_join .u64 64 (by decide) wraps_u64 8 _ _ (by omega) (by omega) (by omega) (by omega) (by omega) (by omega)]
  omega

/-- Bytes, the first of them left out. -/
theorem RepB.drop1 {w : World} {F : Nat → Prop} {L : List UInt8} {b off n c k o' n' c' : Nat} (h : RepB w F L (.slice (some ⟨b, off, none⟩) n c)) (hk : k ≤ L.length) (ho : o' = off + k) (hn : n' = L.length - k) (hc : c' = c - k) :
    RepB w F (L.drop k) (.slice (some ⟨b, o', none⟩) n' c') := by
  rcases h with ⟨rfl, a, c1, h, h1, _⟩ | ⟨b, off, c, hv, hb, h1, h2, hcell⟩
  · cases h
    simp at hk
    subst hk ho hn hc
    exact .inl ⟨rfl, Bare.at (by omega)⟩
  · cases hv
    subst ho hn hc
    refine .inr ⟨b, off + k, c - k, by simp, hb, by simp; omega, by omega, fun i hi => ?_⟩
    rw [List.length_drop] at hi
    rw [show off + k + i = off + (k + i) from by omega, hcell (k + i) (by omega), List.getElem_drop]

theorem RepB.drop2 {w : World} {F : Nat → Prop} {L : List UInt8} {b off n c k n' c' : Nat} (h : RepB w F L (.slice (some ⟨b, off, none⟩) n c)) (hk : k = L.length) (hn : n' = 0) (hc : c' ≤ c) :
    RepB w F (L.drop k) (.slice (some ⟨b, off, none⟩) n' c') := by
  rcases h with ⟨rfl, a, c1, h, h1, _⟩ | ⟨b, off, c, hv, hb, h1, h2, hcell⟩
  · cases h
    subst hn
    exact .inl ⟨by simp, Bare.at (by omega)⟩
  · cases hv
    subst hk hn
    rw [List.drop_length]
    exact .inr ⟨b, off, c', rfl, hb, by simp, by omega, fun i hi => by simp at hi⟩

def DigPost (w : World) (rb : Nat) (F : Nat → Prop) (r : Except Int (Nat × List UInt8)) (e : Ending) (w' : World) : Prop :=
  match r with
  | .error c => e = .returned (.tuple #[.int .u64 0, .int .i64 c]) ∧ w = w'
  | .ok (n, l) => ∃ v, e = .returned (.tuple #[.int .u64 (n : Int), .int .i64 0]) ∧ w' = w.setCell ⟨rb, 0, none⟩ v ∧ RepB w F l v

set_option maxRecDepth 20000 in
set_option maxHeartbeats 1600000 in
theorem digits_any (rb : Nat) (F : Nat → Prop) (L : List UInt8) (v : Value) (w : World) (hr : ReadAt w rb v) (hv : RepB w F L v) :
    Calls Try.prog 86 #[.pointer (some ⟨rb, 0, none⟩)] w (DigPost w rb F (takeNum L)) := by
  obtain ⟨va, vc, rfl, hL⟩ := hv.slice
  obtain ⟨r0, r1, hrb⟩ := block1 hr
  have HV := Lib.hid hv
  clear hv hr
  cases L with
  | nil =>
    go_enter Try.func86, Try.ntmps86
    go_wp2_with fail
    go_ret2
    exact ⟨rfl, rfl⟩
  | cons c0 R =>
    have HV2 := HV.out
    rcases HV2 with ⟨h, _⟩ | ⟨b, off, c, hsl, hb, h1, h2, hc⟩
    · cases h
    · cases hsl
      have e0 : w.cell? ⟨b, off, none⟩ = some (.int .u8 (c0.toNat : Int)) := by have := hc 0 (by simp); simpa using this
      have HC := Lib.hid hc
      simp only [List.length_cons] at h1 hL
      clear hc
      have hz : c0.toNat ≤ 255 := by have := c0.toNat_lt; omega
      have HT0 : Hid (takeNum (c0 :: R) = if 8 < c0.toNat then .error 13 else if 0 < c0.toNat ∧ R.head? = some 0 then .error 13 else if R.length < c0.toNat then .error 11
        else .ok ((R.take c0.toNat).foldl (fun n d => n * 256 + d.toNat) 0, R.drop c0.toNat)) := Lib.hid (by rw [takeNum])
      generalize takeNum (c0 :: R) = TN at *
      have HC1 : Hid (∀ (i : Nat) (h : i < R.length), w.cell? ⟨b, off + 1 + i, none⟩ = some (.int .u8 (R[i].toNat : Int))) := Lib.hid fun i h => by
        have := HC.out (i + 1) (by simpa using h)
        rw [show off + 1 + i = off + (i + 1) from by omega]
        simpa using this
      clear HC
      generalize c0.toNat = z at *
      by_cases hs8 : 8 < z
      · have HT : Hid (TN = .error 13) := Lib.hid (by rw [HT0.out, if_pos hs8])
        have hs9 : (8 : Int) < (z : Int) := by omega
        go_enter Try.func86, Try.ntmps86
        go_wp2_with fail
        go_ret2
        rw [HT.out]
        exact ⟨rfl, rfl⟩
      · have hs9 : ¬ (8 : Int) < (z : Int) := by omega
        by_cases hz0 : 0 < z
        · have hz1 : (0 : Int) < (z : Int) := by omega
          cases R with
          | nil =>
            have HT : Hid (TN = .error 11) := Lib.hid (by rw [HT0.out, if_neg hs8, if_neg (by simp), if_pos (by simpa using hz0)])
            simp only [List.length_nil] at h1 hL r0 ⊢
            go_enter Try.func86, Try.ntmps86
            go_wp2_with fail
            go_ret2
            rw [HT.out]
            exact ⟨rfl, rfl⟩
          | cons c1 R2 =>
            have e1 : w.cell? ⟨b, off + 1, none⟩ = some (.int .u8 (c1.toNat : Int)) := by have := HC1.out 0 (by simp); simpa using this
            by_cases hc1 : c1 = 0
            · have HT : Hid (TN = .error 13) := Lib.hid (by rw [HT0.out, if_neg hs8, if_pos ⟨hz0, by simp [hc1]⟩])
              subst hc1
              go_enter Try.func86, Try.ntmps86
              go_wp2_with fail
              go_ret2
              rw [HT.out]
              exact ⟨rfl, rfl⟩
            · have hc2 : ((c1.toNat : Int) == 0) = false := by
                have e := byte_lit c1 0 (by decide)
                rw [show UInt8.ofNat 0 = 0 from rfl, decide_eq_false hc1] at e
                exact e
              by_cases hlen : (c1 :: R2).length < z
              · have HT : Hid (TN = .error 11) := Lib.hid (by rw [HT0.out, if_neg hs8, if_neg (by simp [hc1]), if_pos hlen])
                simp only [List.length_cons] at hlen
                go_enter Try.func86, Try.ntmps86
                go_wp2_with fail
                go_ret2
                rw [HT.out]
                exact ⟨rfl, rfl⟩
              · have HT : Hid (TN = .ok (((c1 :: R2).take z).foldl (fun n d => n * 256 + d.toNat) 0, (c1 :: R2).drop z)) := Lib.hid (by rw [HT0.out, if_neg hs8, if_neg (by simp [hc1]), if_neg hlen])
                simp only [List.length_cons] at hlen h1
                go_enter Try.func86, Try.ntmps86
                go_wp2_with fail
                go_loop [5, 57] (fun n i => ∃ k : Nat, i = .int .i64 (k : Int) ∧ n = .int .u64 ((fold256 ((c1 :: R2).take k) : Nat) : Int) ∧ k ≤ z) (fun _ i => z - (intOf i).toNat)
                case atStart => exact ⟨0, rfl, rfl, by omega⟩
                case round =>
                  obtain ⟨k, rfl, rfl, hk⟩ := hrel
                  by_cases hkz : k < z
                  · have hkR : k < (c1 :: R2).length := by simp; omega
                    have hcell := HC1.out k hkR
                    have hd : (c1 :: R2)[k].toNat ≤ 255 := by have := (c1 :: R2)[k].toNat_lt; omega
                    generalize hdd : (c1 :: R2)[k].toNat = d at *
                    generalize hff : fold256 ((c1 :: R2).take k) = f at *
                    have HDD := Lib.hid hdd
                    have HFF := Lib.hid hff
                    clear hdd hff
                    go_wp2_with fail
                    go_round
                    case rel =>
                      refine ⟨k + 1, by go_num, ?_, by omega⟩
                      have hf : f < 72057594037927936 := by
                        have := fold256_lt ((c1 :: R2).take k)
                        rw [HFF.out] at this
                        have h7 : ((c1 :: R2).take k).length ≤ 7 := by rw [List.length_take]; omega
                        exact Nat.lt_of_lt_of_le this (Nat.pow_le_pow_right (n := 256) (by omega) h7)
                      rw [shl_or f d hf hd, List.take_add_one, List.getElem?_eq_getElem hkR, Option.toList_some, fold256_snoc, HFF.out, HDD.out]
                    case measure => simp [intOf]; omega
                  · have hkz2 : k = z := by omega
                    subst hkz2
                    go_wp2_with fail
                    all_goals go_ret2
                    all_goals rw [HT.out]
                    · exact ⟨_, rfl, rfl, HV.out.drop2 (k := k + 1) (by simp at *; omega) (by omega) (by omega)⟩
                    · exact ⟨_, rfl, rfl, HV.out.drop1 (k := k + 1) (by simp; omega) (by omega) (by simp; omega) (by omega)⟩
        · obtain rfl : z = 0 := by omega
          have HT : Hid (TN = .ok (0, R)) := Lib.hid (by rw [HT0.out, if_neg hs8, if_neg (by simp), if_neg (by omega)]; simp)
          simp only [List.length_cons] at r0
          go_enter Try.func86, Try.ntmps86
          go_wp2_with fail
          all_goals (refine wp_loop_rounds 1 ?_; rw [rounds_succ])
          all_goals go_wp2_with fail
          all_goals go_ret2
          all_goals rw [HT.out]
          all_goals refine ⟨_, rfl, rfl, ?_⟩
          · exact HV.out.drop2 (k := 1) (by rw [List.length_cons]; omega) (by omega) (by omega)
          · exact HV.out.drop1 (k := 1) (by simp) rfl (by simp) rfl

/-- Bytes, the first of them alone. -/
theorem RepB.take1 {w : World} {F : Nat → Prop} {L : List UInt8} {a : Option Addr} {n c k : Nat} (h : RepB w F L (.slice a n c)) (hk : k ≤ L.length) : RepB w F (L.take k) (.slice a k c) := by
  rcases h with ⟨rfl, h⟩ | ⟨b, off, c, hv, hb, h1, h2, hcell⟩
  · obtain rfl : k = 0 := by simpa using hk
    obtain ⟨a', c', h, h1, h2⟩ := h
    cases h
    exact .inl ⟨rfl, a, c, rfl, h1, h2⟩
  · cases hv
    refine .inr ⟨b, off, c, by simp; omega, hb, by simp; omega, h2, fun i hi => ?_⟩
    rw [List.length_take] at hi
    rw [hcell i (by omega), List.getElem_take]

def CutPost (w : World) (rb : Nat) (F : Nat → Prop) (L : List UInt8) (k : Nat) (e : Ending) (w' : World) : Prop :=
  ∃ u v, e = .returned u ∧ w.grownBy w' (some rb) ∧ ReadAt w' rb v ∧ RepB w' F (L.drop k) v ∧ RepB w' (fun b => w.heap.size ≤ b ∧ b < w'.heap.size) (L.take k) u

set_option maxRecDepth 20000 in
set_option maxHeartbeats 1600000 in
theorem cut_any (rb : Nat) (F : Nat → Prop) (L : List UInt8) (v : Value) (k : Nat) (w : World) (hr : ReadAt w rb v) (hv : RepB w F L v) (hF : ∀ b, F b → b < w.heap.size ∧ b ≠ rb) (hk : k ≤ L.length)
    (hL : L.length ≤ 1099511627776) :
    Calls Try.prog 87 #[.pointer (some ⟨rb, 0, none⟩), .int .i64 (k : Int)] w (CutPost w rb F L k) := by
  obtain ⟨va, vc, rfl, _⟩ := hv.slice
  obtain ⟨r0, r1, hrb⟩ := block1 hr
  obtain ⟨ib, hib, hib0, hib1, hib2⟩ := info_parts infoByte
  have hcap : L.length ≤ vc := by
    rcases hv with ⟨rfl, h⟩ | ⟨b, off, c, h, _, h1, _⟩
    · simp
    · cases h; exact h1
  have HV := Lib.hid hv
  have HY := Lib.hid (hv.take1 hk).yields
  have HF := Lib.hid hF
  have HR := Lib.hid hr
  clear hv hr hF
  go_enter Try.func87, Try.ntmps87
  have hkl : (L.take k).length = k := by simp; omega
  have HKL := Lib.hid hkl
  clear hkl
  go_wp2_with (at_builtin; refine wpList_append_any _ rfl _ _ 22 rfl w.heap.size 5 ib (.int .u8 0) 1 1 Try.underlying22 hib hib0 hib1 hib2 rfl (by decide) _ 0 [] rfl (World.ownsRow_nil _ _ _ _) (.slice va k vc) rfl k ((L.take k).map byteV) (by have := HY.out; rw [HKL.out] at this; exact this) ?c1 ?c2 ?c3 ?_)
  case c1 => unfold maxLen; omega
  case c2 => omega
  case c3 => exact Nat.le_refl _
  intro v1 w1 happ
  rw [← List.map_take] at happ
  have hr1 : ReadAt w1 rb (.slice va L.length vc) := by
    have := happ.2.1.block rb hrb (by simp [Value.ownBlock])
    exact this.trans HR.out
  obtain ⟨c0, f0, hrb1⟩ := block1 hr1
  have HAP := Lib.hid happ
  have HR1 := Lib.hid hr1
  obtain ⟨ua, uc, rfl⟩ := owned_slice happ.1
  clear happ hr1
  simp only [Nat.zero_add] at HAP ⊢
  have hfin : ∀ v, RepB w F (L.drop k) v → CutPost w rb F L k (.returned (.slice ua k uc)) (w1.setCell ⟨rb, 0, none⟩ v) := by
    intro v hv
    have hg := HAP.out.2.1
    refine ⟨_, v, rfl, ⟨hg.os, hg.tape, hg.output, by simpa using hg.size, fun j hj hn => ?_⟩, ?_, ?_, ?_⟩
    · rw [Below.heap_setCell _ _ _ _ (fun h => hn (by simp at h; rw [h]))]
      exact hg.block j hj (by simp [Value.ownBlock])
    · have := heap_setCell_same w1 rb 0 _ _ v HR1.out
      simpa [ReadAt] using this
    · refine hv.same (fun _ h => h) fun b hb => ?_
      have hb2 := HF.out b hb
      rw [Below.heap_setCell _ _ _ _ (by simpa using hb2.2)]
      exact hg.block b hb2.1 (by simp [Value.ownBlock])
    · have hown := HAP.out.1
      have hacc := (Acc.of_app (L1 := []) HAP.out).1
      simp only [List.nil_append] at hacc
      refine (RepB.of_own hacc).same (fun b hb => by simpa using hb) fun b hb => ?_
      rw [Below.heap_setCell _ _ _ _ (by simp; omega)]
  have HFIN := Lib.hid hfin
  clear hfin
  cases va with
  | none =>
    rcases HV.out with ⟨h0, a', c', h, _, h1⟩ | ⟨b, off, c, h, _⟩
    · subst h0
      cases h
      obtain rfl := h1 rfl
      have hk0 : k = 0 := by simpa using hk
      subst hk0
      go_wp2_with fail
      go_ret
      exact HFIN.out _ (.inl ⟨rfl, Bare.nil⟩)
    · cases h
  | some ad =>
    by_cases hL0 : L = []
    · subst hL0
      have hk0 : k = 0 := by simpa using hk
      subst hk0
      have hvc : vc ≤ 9223372036854775807 := by
        rcases HV.out with ⟨_, _, _, h, h1, _⟩ | ⟨_, _, _, h, _, _, h1, _⟩
        · cases h; exact h1
        · cases h; exact h1
      go_wp2_with fail
      all_goals go_ret
      all_goals exact HFIN.out _ (.inl ⟨rfl, Bare.at (by omega)⟩)
    · obtain ⟨b, off, sp⟩ := ad
      have hsp : sp = none := by
        rcases HV.out with ⟨h, _⟩ | ⟨b, off, c, h, _⟩
        · exact absurd h hL0
        · cases h; rfl
      subst hsp
      clear hL0
      go_wp2_with fail
      all_goals go_ret
      · exact HFIN.out _ (HV.out.drop2 (by omega) (by omega) (Nat.zero_le _))
      · exact HFIN.out _ (HV.out.drop1 hk rfl rfl rfl)
end Go.Proofs.Ytdngfbljcmbniaa.M

/- Part: MouldTake2. -/
namespace Go.Proofs.Ytdngfbljcmbniaa.M
open Go.RowKit

def zeroVal : Value := .agg #[.int .u64 0, .slice none 0 0, .slice none 0 0]

def ReadPost (w : World) (rb : Nat) (F : Nat → Prop) (r : Except Int (V × List UInt8)) (e : Ending) (w' : World) : Prop :=
  match r with
  | .error c => e = .returned (.tuple #[.agg #[.int .u64 0, .slice none 0 0, .slice none 0 0], .int .i64 c]) ∧ w.grownBy w' (some rb)
  | .ok (d, l) => ∃ u v, e = .returned (.tuple #[u, .int .i64 0]) ∧ w.grownBy w' (some rb) ∧ ReadAt w' rb v ∧ RepB w' F l v ∧ RepV w' (fun b => w.heap.size ≤ b ∧ b < w'.heap.size) d u

def KindSaid (fn : FuncId) (s : Sh) : Prop := ∀ (rb : Nat) (F G : Nat → Prop) (L : List UInt8) (v pu : Value) (w : World), ReadAt w rb v → RepB w F L v → RepS w G s pu →
  (∀ b, F b → b < w.heap.size ∧ b ≠ rb) → (∀ b, G b → b < w.heap.size ∧ b ≠ rb) → L.length ≤ 1099511627776 → ssize s ≤ 64 →
  Calls Try.prog fn #[.pointer (some ⟨rb, 0, none⟩), pu] w (ReadPost w rb F (takeV s L))

theorem takeNum_error {L : List UInt8} {c : Int} (h : takeNum L = .error c) : c = 11 ∨ c = 13 := by
  cases L with
  | nil => simp [takeNum] at h; exact .inl h.symm
  | cons x r =>
    rw [takeNum] at h
    split at h
    · cases h; exact .inr rfl
    · split at h
      · cases h; exact .inr rfl
      · split at h
        · cases h; exact .inl rfl
        · cases h

theorem takeNum_ok {L : List UInt8} {n : Nat} {r : List UInt8} (h : takeNum L = .ok (n, r)) : n < 18446744073709551616 ∧ r.length < L.length := by
  cases L with
  | nil => simp [takeNum] at h
  | cons x l =>
    rw [takeNum] at h
    split at h
    · cases h
    · rename_i h8
      split at h
      · cases h
      · split at h
        · cases h
        · cases h
          refine ⟨?_, by simp; omega⟩
          have h1 := fold256_lt (l.take x.toNat)
          have h2 : (l.take x.toNat).length ≤ 8 := by rw [List.length_take]; omega
          exact Nat.lt_of_lt_of_le h1 (Nat.pow_le_pow_right (n := 256) (by omega) h2)

/-- Behind two new blocks. -/
theorem boxes2 {w : World} {rb : Nat} {v : Value} {F : Nat → Prop} {L : List UInt8} (o1 o2 : Obj) (hr : ReadAt w rb v) (hv : RepB w F L v) (hF : ∀ b, F b → b < w.heap.size ∧ b ≠ rb) :
    ReadAt ((w.alloc o1).alloc o2) rb v ∧ RepB ((w.alloc o1).alloc o2) F L v := by
  refine ⟨old_alloc (old_alloc hr), hv.same (fun _ h => h) fun b hb => ?_⟩
  have := (hF b hb).1
  rw [Below.heap_alloc _ _ _ (by simp; omega), Below.heap_alloc _ _ _ this]

/-- What digits leaves behind two boxes. -/
def DigLeft (w : World) (rb : Nat) (F : Nat → Prop) (o1 o2 : Obj) (r : Except Int (Nat × List UInt8)) (e : Ending) (w' : World) : Prop :=
  w.grownBy w' (some rb) ∧ w'.heap[w.heap.size]? = some o1 ∧ w'.heap[w.heap.size + 1]? = some o2 ∧ match r with
  | .error c => e = .returned (.tuple #[.int .u64 0, .int .i64 c])
  | .ok (n, l) => ∃ v, e = .returned (.tuple #[.int .u64 (n : Int), .int .i64 0]) ∧ ReadAt w' rb v ∧ RepB w' F l v

theorem digits_left (rb : Nat) (F : Nat → Prop) (L : List UInt8) (v : Value) (w : World) (o1 o2 : Obj) (hr : ReadAt w rb v) (hv : RepB w F L v) (hF : ∀ b, F b → b < w.heap.size ∧ b ≠ rb) :
    Calls Try.prog 86 #[.pointer (some ⟨rb, 0, none⟩)] ((w.alloc o1).alloc o2) (DigLeft w rb F o1 o2 (takeNum L)) := by
  obtain ⟨hr2, hv2⟩ := boxes2 o1 o2 hr hv hF
  have hrb := lt_of_heap hr
  have h1 : ((w.alloc o1).alloc o2).heap[w.heap.size]? = some o1 := old_alloc (heap_new _ _ _ rfl)
  have h2 : ((w.alloc o1).alloc o2).heap[w.heap.size + 1]? = some o2 := heap_new _ _ _ (by simp)
  have hg : w.grownBy ((w.alloc o1).alloc o2) (some rb) := gb_alloc _ (gb_alloc _ (gb_refl _ _))
  refine (digits_any rb F L v _ hr2 hv2).mono ?_
  intro e w' hp
  cases hq : takeNum L with
  | error c =>
    rw [hq] at hp
    obtain ⟨rfl, rfl⟩ := hp
    exact ⟨hg, h1, h2, rfl⟩
  | ok x =>
    obtain ⟨n, r⟩ := x
    rw [hq] at hp
    obtain ⟨v1, rfl, rfl, hv1⟩ := hp
    refine ⟨gb_set _ _ hg, old_set h1 (by simp; omega), old_set h2 (by simp; omega), v1, rfl, ?_, hv1.same (fun _ h => h) fun b hb => ?_⟩
    · have := heap_setCell_same _ rb 0 _ _ v1 hr2
      simpa [ReadAt] using this
    · rw [Below.heap_setCell _ _ _ _ (by simpa using (hF b hb).2)]

set_option maxRecDepth 20000 in
set_option maxHeartbeats 1600000 in
theorem number_any : KindSaid 69 .num := by
  intro rb F G L v pu w hr hv hs hF hG hL hss
  obtain ⟨sa, sn, sc, rfl⟩ := hs.agg
  have hd := fun o1 o2 => digits_left rb F L _ w o1 o2 hr hv hF
  have hrb := lt_of_heap hr
  have HD := Lib.hid hd
  have HF := Lib.hid hF
  clear hd hr hv hs hF hG
  have HT : Hid (takeV .num L = match takeNum L with | .error e => .error e | .ok (n, r) => .ok (.mk n [] [], r)) := Lib.hid (by rw [takeV]; rfl)
  go_enter Try.func69, Try.ntmps69
  go_wp2_with fail
  refine (HD.out _ _).mono ?_
  intro e w1 hp
  obtain ⟨hg, -, hb2, hp⟩ := hp
  obtain ⟨d0, d1, d2, g0, g1, g2, hz⟩ := block3 hb2
  have HG := Lib.hid hg
  cases hq : takeNum L with
  | error c =>
    rw [hq] at hp
    subst hp
    have HQ := Lib.hid hq
    clear hq hg hb2
    go_wp2_with fail
    refine bodyPost_ret (v := .tuple #[.agg #[.int .u64 0, .slice none 0 0, .slice none 0 0], .int .i64 c]) (by simp [results, Try.results69, go_sem, d0, d1, d2]) rfl ?_
    rw [HT.out, HQ.out]
    exact ⟨rfl, gb_new _ (by omega) (gb_new _ (by omega) (gb_new _ (by omega) HG.out))⟩
  | ok x =>
    obtain ⟨n, r⟩ := x
    rw [hq] at hp
    obtain ⟨v1, rfl, hr1, hv1⟩ := hp
    have HQ := Lib.hid hq
    have HV1 := Lib.hid hv1
    have HR1 := Lib.hid hr1
    clear hq hv1 hr1 hg hb2
    go_wp2_with fail
    refine bodyPost_ret (v := .tuple #[.agg #[.int .u64 (n : Int), .slice none 0 0, .slice none 0 0], .int .i64 0]) (by simp [results, Try.results69, go_sem, d0, d1, d2]) rfl ?_
    rw [HT.out, HQ.out]
    refine ⟨_, _, rfl, gb_new _ (by omega) (gb_new _ (by omega) (gb_new _ (by omega) HG.out)), ?_, HV1.out.same (fun _ h => h) fun b hb => ?_, ?_⟩
    · exact old_set (old_set (old_set HR1.out (by simp; omega)) (by simp; omega)) (by simp; omega)
    · have hb2 := HF.out b hb
      simp (disch := (simp; omega)) only [Below.heap_setCell]
    · exact RepV_mk.2 ⟨_, _, rfl, (takeNum_ok HQ.out).1, .inl ⟨rfl, Bare.nil⟩, .inl ⟨rfl, Bare.nil⟩⟩

set_option maxRecDepth 20000 in
set_option maxHeartbeats 1600000 in
theorem blob_any : KindSaid 70 .blob := by
  intro rb F G L v pu w hr hv hs hF hG hL hss
  obtain ⟨sa, sn, sc, rfl⟩ := hs.agg
  have hd := fun o1 o2 => digits_left rb F L _ w o1 o2 hr hv hF
  have hrb := lt_of_heap hr
  have HD := Lib.hid hd
  have HF := Lib.hid hF
  clear hd hr hv hs hF hG
  have HT : Hid (takeV .blob L = match takeNum L with | .error e => .error e | .ok (n, r) => if r.length < n then .error 11 else .ok (.mk 0 (r.take n) [], r.drop n)) := Lib.hid (by rw [takeV]; rfl)
  go_enter Try.func70, Try.ntmps70
  go_wp2_with fail
  refine (HD.out _ _).mono ?_
  intro e w1 hp
  obtain ⟨hg, -, hb2, hp⟩ := hp
  obtain ⟨d0, d1, d2, g0, g1, g2, hz⟩ := block3 hb2
  have HG := Lib.hid hg
  cases hq : takeNum L with
  | error c =>
    rw [hq] at hp
    subst hp
    have HQ := Lib.hid hq
    have hc0 : (c != 0) = true := by rcases takeNum_error hq with rfl | rfl <;> rfl
    clear hq hg hb2
    go_wp2_with fail
    refine bodyPost_ret (v := .tuple #[.agg #[.int .u64 0, .slice none 0 0, .slice none 0 0], .int .i64 c]) (by simp [results, Try.results70, go_sem, d0, d1, d2]) rfl ?_
    rw [HT.out, HQ.out]
    exact ⟨rfl, gb_new _ (by omega) (gb_new _ (by omega) (gb_new _ (by omega) HG.out))⟩
  | ok x =>
    obtain ⟨n, r⟩ := x
    rw [hq] at hp
    obtain ⟨v1, rfl, hr1, hv1⟩ := hp
    have HQ := Lib.hid hq
    have HV1 := Lib.hid hv1
    have HR1 := Lib.hid hr1
    obtain ⟨a1, k1, rfl, hrl⟩ := hv1.slice
    obtain ⟨r0, -, hrb1⟩ := block1 hr1
    have hlt := (takeNum_ok hq).2
    have hn64 : n < 18446744073709551616 := (takeNum_ok hq).1
    have HN : Hid (n < 18446744073709551616) := Lib.hid (takeNum_ok hq).1
    clear hq hv1 hr1
    by_cases hn : r.length < n
    · have hn2 : (r.length : Int) < (n : Int) := by omega
      have HNN := Lib.hid hn
      clear hn64 hg hb2
      go_wp2_with fail
      refine bodyPost_ret (v := .tuple #[.agg #[.int .u64 0, .slice none 0 0, .slice none 0 0], .int .i64 11]) (by simp [results, Try.results70, go_sem, d0, d1, d2]) rfl ?_
      rw [HT.out, HQ.out]
      simp only [if_pos HNN.out]
      exact ⟨rfl, gb_new _ (by omega) (gb_new _ (by omega) (gb_new _ (by omega) HG.out))⟩
    · have hn2 : ¬ (r.length : Int) < (n : Int) := by omega
      have hn3 : n ≤ r.length := by omega
      have HNN := Lib.hid hn
      have HC := Lib.hid (cut_any rb F r _ n w1 HR1.out HV1.out (fun b hb => ⟨Nat.lt_of_lt_of_le (HF.out b hb).1 hg.size, (HF.out b hb).2⟩) hn3 (by omega))
      have HB2 := Lib.hid hb2
      clear hn64 hg hn hb2
      go_wp2_with fail
      refine HC.out.mono ?_
      rintro e w2 ⟨u, v2, rfl, hg2, hr2, hv2, hu⟩
      have hb3 := (hg2.block (w.heap.size + 1) hz (by simp; omega)).trans HB2.out
      obtain ⟨d0, d1, d2, g0, g1, g2, hz2⟩ := block3 hb3
      obtain ⟨ua, uc, hue, _⟩ := hu.slice
      rw [List.length_take, Nat.min_eq_left hn3] at hue
      subst hue
      have HG2 := Lib.hid hg2
      have HR2 := Lib.hid hr2
      have HV2 := Lib.hid hv2
      have HU := Lib.hid hu
      clear hg2 hr2 hv2 hu hb3
      go_wp2_with fail
      refine bodyPost_ret (v := .tuple #[.agg #[.int .u64 0, .slice ua n uc, .slice none 0 0], .int .i64 0]) (by simp [results, Try.results70, go_sem, d0, d1, d2]) rfl ?_
      rw [HT.out, HQ.out]
      simp only [if_neg HNN.out]
      refine ⟨_, _, rfl, gb_new _ (by omega) (gb_new _ (by omega) (gb_new _ (by omega) (gb_trans HG.out HG2.out))), ?_, HV2.out.same (fun _ h => h) fun b hb => ?_, ?_⟩
      · exact old_set (old_set (old_set HR2.out (by simp; omega)) (by simp; omega)) (by simp; omega)
      · have hb2 := HF.out b hb
        simp (disch := (simp; omega)) only [Below.heap_setCell]
      · refine RepV_mk.2 ⟨_, _, rfl, by omega, HU.out.same (fun b hb => ?_) (fun b hb => ?_), .inl ⟨rfl, Bare.nil⟩⟩
        · simp; have := HG.out.size; omega
        · simp (disch := (simp; omega)) only [Below.heap_setCell]
end Go.Proofs.Ytdngfbljcmbniaa.M

/- Part: MouldTake3. -/
namespace Go.Proofs.Ytdngfbljcmbniaa.M
open Go.RowKit

def readerFn : Sh → FuncId
  | .num => 69
  | .blob => 70
  | .list _ => 71
  | .row _ => 72

theorem reader_entry (s : Sh) (args : Array Value) (w : World) : (callFunc (readerFn s) args).run Try.prog w = .ok (.enter (readerFn s) args) w := by
  cases s <;> simp [readerFn, go_sem]

theorem readerOf_any (s : Sh) (w : World) : Calls Try.prog 52 #[.int .u8 (kind s)] w fun e w' => e = .returned (.func (.func (readerFn s)) #[] #[]) ∧ w = w' := by
  cases s
  all_goals
    simp only [kind, readerFn]
    go_enter Try.func52, Try.ntmps52
    go_wp2_with fail
    go_ret
    exact ⟨rfl, rfl⟩

theorem ReadPost.form {w w' : World} {rb : Nat} {F : Nat → Prop} {r : Except Int (V × List UInt8)} {e : Ending} (h : ReadPost w rb F r e w') :
    ∃ n ab nb cb al nl cl c, e = .returned (.tuple #[.agg #[.int .u64 n, .slice ab nb cb, .slice al nl cl], .int .i64 c]) ∧ w.grownBy w' (some rb) := by
  cases r with
  | error c => exact ⟨_, _, _, _, _, _, _, _, h.1, h.2⟩
  | ok x =>
    obtain ⟨d, l⟩ := x
    obtain ⟨u, v, he, hg, hr, hv, hu⟩ := h
    obtain ⟨n, ab, nb, cb, al, nl, cl, rfl⟩ := hu.form
    exact ⟨_, _, _, _, _, _, _, _, he, hg⟩

/-- The same, seen from an earlier world, and behind stores into blocks that nobody else knows. -/
theorem ReadPost.wrap {w w0 w1 W : World} {rb : Nat} {F : Nat → Prop} {r : Except Int (V × List UInt8)} {e : Ending} (h : ReadPost w0 rb F r e w1) (h0 : w.heap.size ≤ w0.heap.size)
    (hW : ∀ k, k = rb ∨ F k ∨ w0.heap.size ≤ k → W.heap[k]? = w1.heap[k]?) (hg : w.grownBy W (some rb)) (hs : w1.heap.size ≤ W.heap.size) : ReadPost w rb F r e W := by
  cases r with
  | error c => exact ⟨h.1, hg⟩
  | ok x =>
    obtain ⟨d, l⟩ := x
    obtain ⟨u, v, he, _, hr, hv, hu⟩ := h
    exact ⟨u, v, he, hg, (hW rb (.inl rfl)).trans hr, hv.same (fun _ h => h) fun b hb => hW b (.inr (.inl hb)), hu.same (fun b hb => by omega) fun b hb => hW b (.inr (.inr hb.1))⟩

set_option maxRecDepth 20000 in
set_option maxHeartbeats 1600000 in
theorem value_of {s : Sh} (hk : KindSaid (readerFn s) s) : KindSaid 30 s := by
  intro rb F G L v pu w hr hv hs hF hG hL hss
  obtain ⟨sa, sn, sc, rfl⟩ := hs.agg
  have hrb := lt_of_heap hr
  have hcall := fun o1 o2 => hk rb F G L v (.agg #[.int .u8 (kind s), .slice sa sn sc, .bool (solid s)]) ((w.alloc o1).alloc o2).drew (boxes2 o1 o2 hr hv hF).1 (boxes2 o1 o2 hr hv hF).2
    (hs.same (fun _ h => h) fun b hb => by
      have := (hG b hb).1
      show ((w.alloc o1).alloc o2).heap[b]? = _
      rw [Below.heap_alloc _ _ _ (by simp; omega), Below.heap_alloc _ _ _ this])
    (fun b hb => ⟨by have := (hF b hb).1; simp; omega, (hF b hb).2⟩) (fun b hb => ⟨by have := (hG b hb).1; simp; omega, (hG b hb).2⟩) hL hss
  have HC := Lib.hid hcall
  have HRO := Lib.hid (readerOf_any s)
  have HF := Lib.hid hF
  have hent := reader_entry s
  clear hcall hk hr hv hs hF hG
  generalize readerFn s = fn at *
  generalize takeV s L = TV at *
  go_enter Try.func30, Try.ntmps30
  go_wp2_with fail
  go_region_law (first | (go_simp; go_at_call 52; refine (HRO.out _).mono ?_; rintro e w1 ⟨rfl, rfl⟩) | (go_simp; refine (HC.out _ _).mono ?_; intro e w1 hp; obtain ⟨n, ab, nb, cb, al, nl, cl, c, rfl, hg⟩ := hp.form; have hb2 := hg.block (w.heap.size + 1) (by simp) (by simp; omega); obtain ⟨d0, d1, d2, g0, g1, g2, hz⟩ := block3 (hb2.trans (heap_new _ _ _ (by simp))); have HP := Lib.hid hp; have HG := Lib.hid hg; clear hp hg hb2))
  all_goals go_wp2_with fail
  all_goals refine bodyPost_ret (v := .tuple #[.agg #[.int .u64 n, .slice ab nb cb, .slice al nl cl], .int .i64 c]) (by simp [results, Try.results30, go_sem, d0, d1, d2]) rfl ?_
  all_goals refine HP.out.wrap (by simp; omega) ?_ ?_ (by simp)
  all_goals first | exact gb_new _ (by simp) (gb_new _ (by simp) (gb_new _ (by simp) (gb_trans (gb_drew (gb_alloc _ (gb_alloc _ (gb_refl _ _)))) HG.out))) | skip
  all_goals
    intro k hk
    have hkne : k ≠ w.heap.size + 1 := by
      rcases hk with rfl | hk | hk
      · omega
      · have := (HF.out k hk).1; omega
      · simp at hk; omega
    simp (disch := (simp; omega)) only [Below.heap_setCell]
end Go.Proofs.Ytdngfbljcmbniaa.M

/- Part: MouldTake4. -/
namespace Go.Proofs.Ytdngfbljcmbniaa.M
open Go.RowKit

/-- What a reading may answer. -/
def Fair (b : List UInt8) {α : Type} (r : Except Int (α × List UInt8)) : Prop :=
  match r with
  | .error c => c = 11 ∨ c = 13
  | .ok (_, l) => l.length ≤ b.length

theorem fair_num (b : List UInt8) : Fair b (takeNum b) := by
  cases h : takeNum b with
  | error c => exact takeNum_error h
  | ok x => obtain ⟨n, r⟩ := x; exact Nat.le_of_lt (takeNum_ok h).2

theorem fair_many {t : List UInt8 → Except Int (V × List UInt8)} (ht : ∀ b, Fair b (t b)) : ∀ (n : Nat) (b : List UInt8), Fair b (takeMany t n b)
  | 0, b => by unfold takeMany Fair; simp
  | n + 1, b => by
    rw [takeMany]
    have h1 := ht b
    cases h : t b with
    | error c => rw [h] at h1; exact h1
    | ok x =>
      obtain ⟨v, b'⟩ := x
      rw [h] at h1
      have h2 := fair_many ht n b'
      dsimp only
      cases h' : takeMany t n b' with
      | error c => rw [h'] at h2; exact h2
      | ok y =>
        obtain ⟨l, b''⟩ := y
        rw [h'] at h2
        exact Nat.le_trans h2 h1

mutual
theorem fair_take : ∀ (s : Sh) (b : List UInt8), Fair b (takeV s b)
  | .num, b => by
    have h1 := fair_num b
    rw [takeV]
    cases h : takeNum b with
    | error c => rw [h] at h1; exact h1
    | ok x => obtain ⟨n, r⟩ := x; rw [h] at h1; exact h1
  | .blob, b => by
    have h1 := fair_num b
    rw [takeV]
    cases h : takeNum b with
    | error c => rw [h] at h1; exact h1
    | ok x =>
      obtain ⟨n, r⟩ := x
      rw [h] at h1
      dsimp only
      split
      · exact .inl rfl
      · unfold Fair at h1 ⊢
        simp only [List.length_drop]
        dsimp only at h1
        omega
  | .list s, b => by
    have h1 := fair_num b
    rw [takeV]
    cases h : takeNum b with
    | error c => rw [h] at h1; exact h1
    | ok x =>
      obtain ⟨n, r⟩ := x
      rw [h] at h1
      dsimp only
      split
      · exact .inl rfl
      · split
        · exact .inr rfl
        · have h2 := fair_many (fair_take s) n r
          cases h' : takeMany (takeV s) n r with
          | error c => rw [h'] at h2; exact h2
          | ok y => obtain ⟨l, r'⟩ := y; rw [h'] at h2; exact Nat.le_trans h2 h1
  | .row l, b => by
    have h1 := fair_takes l b
    rw [takeV]
    cases h : takeVs l b with
    | error c => rw [h] at h1; exact h1
    | ok x => obtain ⟨n, r⟩ := x; rw [h] at h1; exact h1
theorem fair_takes : ∀ (l : List Sh) (b : List UInt8), Fair b (takeVs l b)
  | [], b => by rw [takeVs]; unfold Fair; simp
  | s :: l, b => by
    have h1 := fair_take s b
    rw [takeVs]
    cases h : takeV s b with
    | error c => rw [h] at h1; exact h1
    | ok x =>
      obtain ⟨v, b'⟩ := x
      rw [h] at h1
      have h2 := fair_takes l b'
      dsimp only
      cases h' : takeVs l b' with
      | error c => rw [h'] at h2; exact h2
      | ok y => obtain ⟨vs, b''⟩ := y; rw [h'] at h2; exact Nat.le_trans h2 h1
end

/-- Values read already, ahead of what is read then. -/
def catV (ds : List V) (r : Except Int (List V × List UInt8)) : Except Int (List V × List UInt8) :=
  match r with
  | .error c => .error c
  | .ok (l, b) => .ok (ds ++ l, b)

theorem catV_nil (r : Except Int (List V × List UInt8)) : r = catV [] r := by cases r <;> rfl

theorem catV_step {t : List UInt8 → Except Int (V × List UInt8)} {n : Nat} {b r : List UInt8} {d : V} {ds : List V} (h : t b = .ok (d, r)) : catV ds (takeMany t (n + 1) b) = catV (ds ++ [d]) (takeMany t n r) := by
  rw [takeMany, h]
  dsimp only
  cases h' : takeMany t n r with
  | error c => rfl
  | ok y => obtain ⟨l, b'⟩ := y; simp [catV]

theorem catV_fails {t : List UInt8 → Except Int (V × List UInt8)} {n : Nat} {b : List UInt8} {c : Int} {ds : List V} (h : t b = .error c) : catV ds (takeMany t (n + 1) b) = .error c := by
  rw [takeMany, h]; rfl

theorem catV_ends {t : List UInt8 → Except Int (V × List UInt8)} {b : List UInt8} {ds : List V} : catV ds (takeMany t 0 b) = .ok (ds, b) := by
  rw [takeMany]; simp [catV]

theorem catR_step {s : Sh} {l : List Sh} {b r : List UInt8} {d : V} {ds : List V} (h : takeV s b = .ok (d, r)) : catV ds (takeVs (s :: l) b) = catV (ds ++ [d]) (takeVs l r) := by
  rw [takeVs, h]
  dsimp only
  cases h' : takeVs l r with
  | error c => rfl
  | ok y => obtain ⟨l, b'⟩ := y; simp [catV]

theorem catR_fails {s : Sh} {l : List Sh} {b : List UInt8} {c : Int} {ds : List V} (h : takeV s b = .error c) : catV ds (takeVs (s :: l) b) = .error c := by
  rw [takeVs, h]; rfl

theorem catR_ends {b : List UInt8} {ds : List V} : catV ds (takeVs [] b) = .ok (ds, b) := by
  rw [takeVs]; simp [catV]

theorem infoVal : (Try.prog.info? 45).map (fun i => (i.zero, i.size, i.bytes)) = some (some (.agg #[.int .u64 0, .slice none 0 0, .slice none 0 0]), 3, 56) := by kernel_rfl

/-- The values gathered so far by a call that began in w, and what is left of the bytes. -/
structure Gather (w : World) (rb : Nat) (F : Nat → Prop) (o1 o2 : Obj) (ds : List V) (va : Option Addr) (vn vc : Nat) (lk : List UInt8) (wr : World) : Prop where
  grown : w.grownBy wr (some rb)
  box1 : wr.heap[w.heap.size]? = some o1
  box2 : wr.heap[w.heap.size + 1]? = some o2
  left : ∃ v, ReadAt wr rb v ∧ RepB wr F lk v
  owns : ∃ xs, wr.ownsRow (w.heap.size + 2) 45 3 (.slice va vn vc) ds.length xs ∧ Kids (RepV wr fun b => w.heap.size + 2 ≤ b ∧ b < wr.heap.size ∧ (Value.slice va vn vc).ownBlock ≠ some b) ds xs

/-- The world moves on without touching what was gathered. -/
theorem Gather.next {w wr w1 : World} {rb : Nat} {F : Nat → Prop} {o1 o2 : Obj} {ds : List V} {va : Option Addr} {vn vc : Nat} {lk l1 : List UInt8} {v1 : Value} (h : Gather w rb F o1 o2 ds va vn vc lk wr) (hrb : rb < w.heap.size)
    (hg : wr.grownBy w1 (some rb)) (hr : ReadAt w1 rb v1) (hv : RepB w1 F l1 v1) : Gather w rb F o1 o2 ds va vn vc l1 w1 := by
  obtain ⟨hg0, h1, h2, _, xs, hown, hk⟩ := h
  have hz1 := lt_of_heap h1
  have hz2 := lt_of_heap h2
  refine ⟨gb_trans hg0 hg, (hg.block _ hz1 (by simp; omega)).trans h1, (hg.block _ hz2 (by simp; omega)).trans h2, ⟨v1, hr, hv⟩, xs, hown.kept hg ?_, hk.mono fun s u hu => hu.same ?_ ?_⟩
  · cases ho : (Value.slice va vn vc).ownBlock with
    | none => exact .inl rfl
    | some k =>
      have := (hown.lt k ho).1
      exact .inr (by simp; omega)
  · intro b ⟨a1, a2, a3⟩
    exact ⟨a1, Nat.lt_of_lt_of_le a2 hg.size, a3⟩
  · intro b ⟨a1, a2, a3⟩
    exact hg.block b a2 (by simp; omega)

/-- One value more is appended. -/
theorem Gather.push {w w1 w4 : World} {rb : Nat} {F : Nat → Prop} {o1 o2 o3 o4 : Obj} {ds : List V} {d : V} {va va' : Option Addr} {vn vn' vc vc' lo : Nat} {lk : List UInt8} {x y z : Value} {xs : List Value} {n : Nat}
    (h : Gather w rb F o1 o2 ds va vn vc lk w1) (hrb : rb < w.heap.size) (hF : ∀ b, F b → b < w.heap.size ∧ b ≠ rb) (hd : RepV w1 (fun b => lo ≤ b ∧ b < w1.heap.size) d (.agg #[x, y, z])) (hlo : w.heap.size + 2 ≤ lo)
    (hown1 : w1.ownsRow (w.heap.size + 2) 45 3 (.slice va vn vc) ds.length xs) (hkids : Kids (RepV w1 fun b => w.heap.size + 2 ≤ b ∧ b < w1.heap.size ∧ (Value.slice va vn vc).ownBlock ≠ some b) ds xs)
    (hlo2 : ∀ k, (Value.slice va vn vc).ownBlock = some k → k < lo)
    (hown : w4.ownsRow (w.heap.size + 2) 45 3 (.slice va' vn' vc') n (xs ++ [x, y, z])) (hn : n = ds.length + 1)
    (hg : ((w1.alloc o3).alloc o4).grownBy w4 (Value.slice va vn vc).ownBlock)
    (hwhere : (Value.slice va' vn' vc').ownBlock = (Value.slice va vn vc).ownBlock ∨ (Value.slice va' vn' vc').ownBlock = some (w1.heap.size + 2)) :
    Gather w rb F o1 o2 (ds ++ [d]) va' vn' vc' lk w4 := by
  obtain ⟨hg0, h1, h2, ⟨v, hr, hv⟩, _⟩ := h
  have hz := hg.size
  simp at hz
  have hz2 := lt_of_heap h2
  have hne : ∀ k, k < w.heap.size + 2 → (Value.slice va vn vc).ownBlock ≠ some k := fun k hk h => by
    have := (hown1.lt k h).1; omega
  have hkeep : ∀ k, k < w1.heap.size → (Value.slice va vn vc).ownBlock ≠ some k → w4.heap[k]? = w1.heap[k]? := fun k hk hn => by
    rw [hg.block k (by simp; omega) (fun h => hn h.symm), Below.heap_alloc _ _ _ (by simp; omega), Below.heap_alloc _ _ _ hk]
  have hnew : ∀ b, b < w1.heap.size → (Value.slice va vn vc).ownBlock ≠ some b → (Value.slice va' vn' vc').ownBlock ≠ some b := fun b hb hn h => by
    rcases hwhere with h5 | h5
    · exact hn (h5.symm.trans h)
    · rw [h] at h5; simp at h5; omega
  subst hn
  refine ⟨⟨hg.os.trans hg0.os, hg.tape.trans hg0.tape, hg.output.trans hg0.output, by have := hg0.size; omega, fun k hk hn => ?_⟩, (hkeep _ (by omega) (hne _ (by omega))).trans h1, (hkeep _ hz2 (hne _ (by omega))).trans h2,
    ⟨v, (hkeep rb (by omega) (hne rb (by omega))).trans hr, hv.same (fun _ h => h) fun b hb => hkeep b (by have := (hF b hb).1; omega) (hne b (by have := (hF b hb).1; omega))⟩,
    xs ++ [x, y, z], by rw [List.length_append, List.length_singleton]; exact hown, Kids.snoc (hd.same ?_ ?_) (hkids.mono fun s u hu => hu.same ?_ ?_)⟩
  · have := hg0.size
    rw [hkeep k (by omega) (hne k (by omega))]
    exact hg0.block k hk hn
  · intro b ⟨a1, a2⟩
    exact ⟨by omega, by omega, hnew b a2 fun h => by have := hlo2 b h; omega⟩
  · intro b ⟨a1, a2⟩
    exact hkeep b a2 fun h => by have := hlo2 b h; omega
  · intro b ⟨a1, a2, a3⟩
    exact ⟨a1, by omega, hnew b a2 a3⟩
  · intro b ⟨a1, a2, a3⟩
    exact hkeep b a2 a3
end Go.Proofs.Ytdngfbljcmbniaa.M
