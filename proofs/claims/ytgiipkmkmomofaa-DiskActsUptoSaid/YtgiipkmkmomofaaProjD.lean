/- The program's disk: Read, has, fit, lay, drop. -/
import Derived.Test.YtgiipkmkmomofaaProjC
namespace Go.Proofs.Ytgiipkmkmomofaa.M
open Go.RowKit Go.Maps
open D (Fl Dk)

/-- A file's bytes. -/
def bytesOf (fs : List Fl) (s : ByteArray) : List UInt8 := match fs.find? (fun f => decide (f.nm = s)) with | some f => f.b | none => []

theorem FileAt.rep {w : World} {b : Nat} {v : Value} {f : Fl} (h : FileAt w b v f) : RepB w (fun k => v.ownBlock = some k) f.b v := by
  obtain ⟨a, c, hv⟩ := owned_slice h.2
  rcases h.2.2 with ⟨h1, h2⟩ | ⟨g, cap, cur, hv2, hg, hcur, hn, hm, hs, ht⟩
  · have : f.b = [] := List.length_eq_zero_iff.1 h2
    rw [this, h1]
    exact .inl ⟨rfl, Bare.nil⟩
  · refine .inr ⟨g, 0, cap, hv2, by rw [hv2]; rfl, hn, by unfold maxLen at hm; exact hm, fun i hi => ?_⟩
    have h2 := h.2
    rw [hv2] at h2
    have h3 := h2.cellAt i (by omega)
    rw [Nat.zero_add, h3]
    simp [hi, byteV]

theorem FileAt.nil {w : World} {b : Nat} {a : Option Addr} {n c : Nat} {f : Fl} (h : FileAt w b (.slice a n c) f) (ha : a = none) : n = 0 ∧ c = 0 := by
  subst ha
  rcases h.2.2 with ⟨h1, h2⟩ | ⟨g, cap, cur, hv2, hg, hcur, hn, hm, hs, ht⟩
  · cases h1; exact ⟨rfl, rfl⟩
  · cases hv2

section
variable (d : Dk) (X : Nat → Prop) (gd : Nat) (s : ByteArray) (w : World)

set_option maxRecDepth 20000 in
set_option maxHeartbeats 800000 in
theorem PRead_any (hd : PDskIn w X gd d) (hr : D.Rising d.fs) (hs : s.size ≤ 9223372036854775807) (hu : D.used d.fs ≤ 140737488355328) :
    Calls Try.prog 17 #[.pointer (some ⟨gd, 0, none⟩), .string s] w fun e w' => ∃ v, e = .returned (.tuple #[v, .bool (D.isThere d.fs s)]) ∧ Own w (bytesOf d.fs s) v w' := by
  obtain ⟨⟨gm, M, E, hat⟩, hX⟩ := hd
  obtain ⟨⟨-, -, c2⟩, -, hz⟩ := hat.cells
  have hl := hat.look hs (w' := w) rfl
  cases ht : D.isThere d.fs s with
  | false =>
    have HE : Hid (bytesOf d.fs s = []) := Lib.hid (by unfold bytesOf; rw [find_none ht])
    unfold ptrOf at hl
    rw [ht] at hl
    clear hat ht hX
    go_enter Try.func17, Try.ntmps17
    go_wp2_with fail
    go_ret2
    exact ⟨_, rfl, by rw [HE.out]; exact Own.bare (Below.refl _ _)⟩
  | true =>
    obtain ⟨f, hf, rfl⟩ := D.isThere_mem.1 ht
    have HE : Hid (bytesOf d.fs f.nm = f.b) := Lib.hid (by unfold bytesOf; rw [find_some hr hf])
    unfold ptrOf at hl
    rw [ht] at hl
    have hfa := hat.each f hf
    obtain ⟨c0, -, -, -, hz2, a, c, hv, -⟩ := hfa.cells
    obtain ⟨b, hb⟩ : ∃ b, b = (E f.nm).1 := ⟨_, rfl⟩
    have hown : ∀ k, (E f.nm).2.ownBlock = some k → k < w.heap.size := fun k hk => hX k ((hat.foot.2.2 f hf).2 k hk)
    have hub : f.b.length ≤ 140737488355328 := Nat.le_trans (D.used_mem hf) hu
    rw [hv] at hfa c0 hown
    rw [← hb] at hl c0 hz2 hfa
    have HF := Lib.hid hfa
    have HO := Lib.hid hown
    have HUB := Lib.hid hub
    obtain ⟨n, hn⟩ : ∃ n, n = f.b.length := ⟨_, rfl⟩
    have HN := Lib.hid hn
    rw [← hn] at c0
    clear hat ht hf hb hv hfa hown hX hn hub hu
    go_enter Try.func17, Try.ntmps17
    go_wp2_with fail
    refine (Clone_any a f.b n c HN.out w _ (by have := HF.out.rep; rw [← HN.out] at this; exact this) (fun k hk => HO.out k (by rw [← HN.out]; exact hk)) (fun ha => by have := HF.out.nil ha; rw [HN.out]; exact this) HUB.out).mono ?_
    rintro e w1 ⟨v, rfl, hown⟩
    obtain ⟨va, vc, rfl⟩ := hown.slice
    have HW := Lib.hid hown
    clear hown
    go_wp2_with fail
    go_ret2
    exact ⟨_, rfl, by rw [HE.out]; exact HW.out⟩
end

set_option maxRecDepth 20000 in
set_option maxHeartbeats 800000 in
theorem Has_any (d : Dk) (X : Nat → Prop) (gd : Nat) (names : List ByteArray) (F : Nat → Prop) (vn : Value) (w : World) (hd : PDsk w X gd d) (hv : RepSl w F names vn) (hF : ∀ k, F k → k < w.heap.size) (hs : ∀ s ∈ names, s.size ≤ 9223372036854775807) :
    Calls Try.prog 45 #[.pointer (some ⟨gd, 0, none⟩), vn] w fun e w' => e = .returned (.bool (names.all (D.isThere d.fs))) ∧ w = w' := by
  obtain ⟨na, nc, rfl, hnl⟩ := hv.slice
  obtain ⟨gm, M, E, hat⟩ := hd
  obtain ⟨⟨-, -, c2⟩, -, hz⟩ := hat.cells
  have HAT := Lib.hid hat
  have HV := Lib.hid hv
  have HF := Lib.hid hF
  have HS := Lib.hid hs
  clear hv hF hs hat
  go_enter Try.func45, Try.ntmps45
  go_wp2_with fail
  go_loop [6, 9] (fun _ i => ∃ k : Nat, k ≤ names.length ∧ i = .int .i64 (k : Int) ∧ Hid ((names.take k).all (D.isThere d.fs) = true)) (fun _ i => names.length - (intOf i).toNat)
  case atStart => exact ⟨0, Nat.zero_le _, rfl, Lib.hid rfl⟩
  case round =>
    obtain ⟨k, hk, rfl, HA⟩ := hrel
    by_cases hlt : k < names.length
    · have hkk : (k : Int) < (names.length : Int) := by omega
      obtain ⟨b, off, rfl, hFb, hc⟩ := HV.out.elem k hlt
      have hbz := HF.out b hFb
      obtain ⟨s, hs⟩ : ∃ s, s = names[k] := ⟨_, rfl⟩
      rw [← hs] at hc
      have HSN := Lib.hid hs
      have hss : s.size ≤ 9223372036854775807 := HS.out s (by rw [hs]; exact List.getElem_mem hlt)
      have hl := HAT.out.look hss (w' := w) rfl
      clear hs hss
      cases ht : D.isThere d.fs s with
      | true =>
        have HN : Hid ((names.take (k + 1)).all (D.isThere d.fs) = true) := Lib.hid (by
          rw [List.take_succ_eq_append_getElem hlt, List.all_append, HA.out, ← HSN.out]
          simp [ht])
        unfold ptrOf at hl
        rw [ht] at hl
        clear ht
        go_wp2_with fail
        go_round
        case rel => exact ⟨k + 1, by omega, by go_num, HN⟩
        case measure => simp [intOf]; omega
      | false =>
        have HN : Hid (names.all (D.isThere d.fs) = false) := Lib.hid (by
          rw [List.all_eq_false]
          exact ⟨names[k], List.getElem_mem hlt, by rw [← HSN.out, ht]; simp⟩)
        unfold ptrOf at hl
        rw [ht] at hl
        clear ht
        go_wp2_with fail
        go_ret
        exact ⟨by rw [HN.out]; rfl, rfl⟩
    · have hkk : ¬ (k : Int) < (names.length : Int) := by omega
      obtain rfl : k = names.length := by omega
      have HN : Hid (names.all (D.isThere d.fs) = true) := Lib.hid (by
        have := HA.out
        rw [List.take_length] at this
        exact this)
      go_wp2_with fail
      go_ret
      exact ⟨by rw [HN.out]; rfl, rfl⟩

/-- What is left of a room. -/
def fitR (room : Int) (bs : List (List UInt8)) : Value := if (bs.flatten.length : Int) ≤ room then .tuple #[.int .i64 (room - bs.flatten.length), .bool true] else .tuple #[.int .i64 0, .bool false]

set_option maxRecDepth 20000 in
set_option maxHeartbeats 800000 in
theorem Fit_any (room : Int) (bs : List (List UInt8)) (F : Nat → Prop) (vb : Value) (w : World) (hr : 0 ≤ room) (hr2 : room ≤ 9223372036854775807) (hv : RepBl w F bs vb) (hF : ∀ k, F k → k < w.heap.size) :
    Calls Try.prog 42 #[.int .i64 room, vb] w fun e w' => e = .returned (fitR room bs) ∧ w = w' := by
  obtain ⟨na, nc, rfl, hnl⟩ := hv.slice
  have HV := Lib.hid hv
  have HF := Lib.hid hF
  have HR := Lib.hid hr
  have HR2 := Lib.hid hr2
  clear hv hF hr hr2
  go_enter Try.func42, Try.ntmps42
  go_wp2_with fail
  go_loop [0, 7, 10] (fun r _ i => ∃ (k : Nat) (y : Int), k ≤ bs.length ∧ i = .int .i64 (k : Int) ∧ r = .int .i64 y ∧ Hid (y = room - ((bs.take k).flatten.length : Int) ∧ 0 ≤ y)) (fun _ _ i => bs.length - (intOf i).toNat)
  case atStart => exact ⟨0, room, Nat.zero_le _, rfl, rfl, Lib.hid ⟨by simp, HR.out⟩⟩
  case round =>
    obtain ⟨k, y, hk, rfl, rfl, HA⟩ := hrel
    by_cases hlt : k < bs.length
    · have hkk : (k : Int) < (bs.length : Int) := by omega
      obtain ⟨b, off, u, rfl, hFb, hc, hu⟩ := HV.out.elem k hlt
      obtain ⟨ua, uc, rfl, hul⟩ := hu.slice
      have hbz := HF.out b hFb
      obtain ⟨x, hx⟩ : ∃ x, x = bs[k].length := ⟨_, rfl⟩
      rw [← hx] at hc hul
      have hsum : ((bs.take (k + 1)).flatten.length : Int) = ((bs.take k).flatten.length : Int) + (x : Int) := by
        rw [List.take_succ_eq_append_getElem hlt, List.flatten_append, List.length_append, hx]
        simp
      have hle : (bs.take (k + 1)).flatten.length ≤ bs.flatten.length := by
        have : bs.flatten = (bs.take (k + 1)).flatten ++ (bs.drop (k + 1)).flatten := by rw [← List.flatten_append, List.take_append_drop]
        rw [this, List.length_append]; omega
      have hy0 := HA.out.2
      have hyr := HR2.out
      have hye := HA.out.1
      by_cases hf : y < (x : Int)
      · have HN : Hid (fitR room bs = .tuple #[.int .i64 0, .bool false]) := Lib.hid (by
          unfold fitR
          rw [if_neg (by omega)])
        clear hsum hle hx hu hye hyr
        go_wp2_with fail
        go_ret2
        exact ⟨by rw [HN.out]; rfl, rfl⟩
      · have hf2 : decide (y < (x : Int)) = false := by simp; omega
        have hy2 : y - (x : Int) ≤ 9223372036854775807 := by omega
        have hy3 : 0 ≤ y - (x : Int) := by omega
        have HN : Hid (y - (x : Int) = room - ((bs.take (k + 1)).flatten.length : Int) ∧ 0 ≤ y - (x : Int)) := Lib.hid ⟨by omega, by omega⟩
        clear hsum hle hx hu hye hyr hf
        go_wp2_with fail
        go_round
        case rel => exact ⟨k + 1, y - x, by omega, by go_num, rfl, HN⟩
        case measure => simp [intOf]; omega
    · have hkk : ¬ (k : Int) < (bs.length : Int) := by omega
      obtain rfl : k = bs.length := by omega
      have HN : Hid (fitR room bs = .tuple #[.int .i64 y, .bool true]) := Lib.hid (by
        have h1 := HA.out
        rw [List.take_length] at h1
        unfold fitR
        rw [if_pos (by omega), h1.1])
      go_wp2_with fail
      go_ret2
      exact ⟨by rw [HN.out]; rfl, rfl⟩
end Go.Proofs.Ytgiipkmkmomofaa.M
