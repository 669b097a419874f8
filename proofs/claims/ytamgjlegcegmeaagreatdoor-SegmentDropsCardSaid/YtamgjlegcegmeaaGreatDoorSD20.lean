/- The program's disk: what is done to one file; Safe, Read. The program's disk: Read, has, fit, lay, drop. The program's disk: bytes laid behind a file's; a file dropped. -/
import Derived.Test.YtamgjlegcegmeaaGreatDoorSD18
import Derived.Test.YtamgjlegcegmeaaGreatDoorSD19
import Derived.Deep.QuietTactic
import Derived.BigQuiet
import Derived.Maps.OwnSet
/- Part: ProjC. -/
namespace Go.Proofs.YtamgjlegcegmeaaGreatDoor.M
open Go.RowKit Go.Maps
open D (Fl Dk)

/-- Two cells of a block that is known whole. -/
theorem FileAt.put1 {w : World} {b : Nat} {v : Value} {f : Fl} (h : FileAt w b v f) (hne : v.ownBlock ≠ some b) (n : Nat) : FileAt (w.setCell ⟨b, 1, none⟩ (.int .i64 (n : Int))) b v { f with safe := n } :=
  ⟨by
    have hb := heap_setCell_same _ _ 1 _ _ (.int .i64 (n : Int)) h.1
    rw [hb]; simp, ownsRow_same h.2 fun k hk => Below.heap_setCell _ _ _ _ (by
      show k ≠ b
      intro e; exact hne (e ▸ hk))⟩

theorem ownsRow_take {w : World} {a : Option Addr} {l : List UInt8} {c n : Nat} (h : w.ownsRow 0 5 1 (.slice a l.length c) l.length (l.map byteV)) (hn : n ≤ l.length) :
    w.ownsRow 0 5 1 (.slice a n c) (l.take n).length ((l.take n).map byteV) := by
  have e : (l.take n).length = n := by simp; omega
  rw [e]
  rcases h.2 with ⟨h1, h2⟩ | ⟨g, cap, cur, hv, hg, hcur, hn2, hm, hs, ht⟩
  · simp only [Value.slice.injEq] at h1
    obtain ⟨rfl, h1, rfl⟩ := h1
    have : n = 0 := by omega
    subst this
    exact ⟨by simp, .inl ⟨rfl, rfl⟩⟩
  · cases hv
    refine ⟨by simp; omega, .inr ⟨g, c, cur, rfl, hg, hcur, by omega, hm, hs, ?_⟩⟩
    have h3 : (cur.toList.take (l.length * 1)).take (n * 1) = (l.map byteV).take n := by rw [ht, Nat.mul_one]
    rw [List.take_take, Nat.min_eq_left (by omega)] at h3
    rw [h3, List.map_take]

/-- A file's bytes and its own block. -/
theorem FileAt.ne {w : World} {b : Nat} {v : Value} {f : Fl} (h : FileAt w b v f) : v.ownBlock ≠ some b := fun e => by
  rcases h.2.2 with ⟨h1, h2⟩ | ⟨g, cap, cur, hv, hg, hcur, hn, hm, hs, ht⟩
  · rw [h1] at e; cases e
  · rw [hv] at e
    cases e
    rw [h.1] at hcur
    simp at hcur

set_option maxRecDepth 20000 in
theorem FSync_any (b : Nat) (v : Value) (f : Fl) (w : World) (h : FileAt w b v f) :
    Calls Tryz.prog 59 #[.pointer (some ⟨b, 0, none⟩)] w fun e w' => e = .returned (.tuple #[]) ∧ Only (fun k => k = b) w w' ∧ w'.heap.size = w.heap.size ∧ FileAt w' b v { f with safe := f.b.length } := by
  obtain ⟨c0, c1, f0, f1, hz, a, c, rfl, hl, hc⟩ := h.cells
  have HP := Lib.hid (h.put1 h.ne f.b.length)
  clear h
  have hl2 : (f.b.length : Int) ≤ 9223372036854775807 := by omega
  go_enter Tryz.func59, Tryz.ntmps59
  go_wp2_with fail
  go_end0
  exact ⟨rfl, Only.one _, by simp, HP.out⟩

set_option maxRecDepth 20000 in
set_option maxHeartbeats 800000 in
theorem FCut_any (b : Nat) (v : Value) (f : Fl) (n : Nat) (w : World) (h : FileAt w b v f) (hn : n ≤ f.b.length) (hsf : f.safe ≤ f.b.length) :
    Calls Tryz.prog 64 #[.pointer (some ⟨b, 0, none⟩), .int .i64 (n : Int)] w fun e w' => e = .returned (.int .i64 ((f.b.length - n : Nat) : Int)) ∧ Only (fun k => k = b) w w' ∧ w'.heap.size = w.heap.size ∧
      ∃ v', v'.ownBlock = v.ownBlock ∧ FileAt w' b v' { f with b := f.b.take n, safe := min f.safe n } := by
  obtain ⟨c0, c1, f0, f1, hz, a, c, rfl, hl, hc⟩ := h.cells
  have hne := h.ne
  have H := Lib.hid h
  clear h
  have hl2 : (f.b.length : Int) ≤ 9223372036854775807 := by omega
  have hn2 : (n : Int) ≤ (f.b.length : Int) := by omega
  have hn3 : (n : Int) ≤ (c : Int) := by omega
  have hs2 : (f.safe : Int) ≤ 9223372036854775807 := by omega
  have hfin : Hid (∀ (wx : World) (m : Int), m = ((min f.safe n : Nat) : Int) → wx = (w.setCell ⟨b, 0, none⟩ (.slice a n c)).setCell ⟨b, 1, none⟩ (.int .i64 m) → Only (fun k => k = b) w wx ∧ wx.heap.size = w.heap.size ∧
      ∃ v', v'.ownBlock = (Value.slice a f.b.length c).ownBlock ∧ FileAt wx b v' { f with b := f.b.take n, safe := min f.safe n }) := Lib.hid fun wx m em e => by
    subst e em
    refine ⟨((Only.refl (fun k => k = b) w).set (.inl rfl) _).set (.inl rfl) _, by simp, .slice a n c, by cases a <;> rfl, ?_, ?_⟩
    · have h1 := heap_setCell_same _ _ 0 _ _ (.slice a n c) H.out.1
      have h2 := heap_setCell_same _ _ 1 _ _ (.int .i64 ((min f.safe n : Nat) : Int)) h1
      rw [h2]; simp
    · refine ownsRow_same (ownsRow_take H.out.2 hn) fun k hk => ?_
      have hkb : k ≠ b := fun e => hne (by rw [← e, ← hk]; cases a <;> rfl)
      rw [Below.heap_setCell _ _ _ _ (by exact hkb), Below.heap_setCell _ _ _ _ (by exact hkb)]
  have hnb : n ≤ c := by omega
  go_enter Tryz.func64, Tryz.ntmps64
  go_wp2_with fail
  go_ret
  refine ⟨?_, hfin.out _ (min (f.safe : Int) (n : Int)) (by omega) rfl⟩
  have e : ((f.b.length - n : Nat) : Int) = (f.b.length : Int) - (n : Int) := by omega
  rw [e]; rfl

theorem stays_le {f : Fl} (hsf : f.safe ≤ f.b.length) (k : Option Int) : f.safe ≤ D.stays f k ∧ D.stays f k ≤ f.b.length := by
  unfold D.stays
  cases k with
  | none => exact ⟨Nat.le_refl _, hsf⟩
  | some k =>
    simp only
    split <;> omega

set_option maxRecDepth 20000 in
set_option maxHeartbeats 800000 in
/-- What a crash leaves of a file. -/
theorem FCrash_any (b : Nat) (v : Value) (f : Fl) (keep : Int) (w : World) (h : FileAt w b v f) (hsf : f.safe ≤ f.b.length) (hk1 : -9223372036854775808 ≤ keep) (hk2 : keep ≤ 9223372036854775807) :
    Calls Tryz.prog 36 #[.pointer (some ⟨b, 0, none⟩), .int .i64 keep] w fun e w' => e = .returned (.int .i64 ((f.b.length - D.stays f (some keep) : Nat) : Int)) ∧ Only (fun k => k = b) w w' ∧ w'.heap.size = w.heap.size ∧
      ∃ v', v'.ownBlock = v.ownBlock ∧ FileAt w' b v' { f with b := f.b.take (D.stays f (some keep)), safe := D.stays f (some keep) } := by
  obtain ⟨c0, c1, f0, f1, hz, a, c, rfl, hl, hc⟩ := h.cells
  obtain ⟨s1, s2⟩ := stays_le hsf (some keep)
  have hst : (D.stays f (some keep) : Int) = (f.safe : Int) + min (max keep 0) ((f.b.length : Int) - (f.safe : Int)) := by
    unfold D.stays
    simp only
    split <;> omega
  obtain ⟨n, hn⟩ : ∃ n, n = D.stays f (some keep) := ⟨_, rfl⟩
  rw [← hn] at hst s1 s2 ⊢
  clear hn
  obtain ⟨y, hy⟩ : ∃ y, y = min (max keep 0) ((f.b.length : Int) - (f.safe : Int)) := ⟨_, rfl⟩
  rw [← hy] at hst
  have hfl : f.b.length ≤ 9223372036854775807 := by omega
  have H := Lib.hid h
  have HS2 := Lib.hid s2
  have HSF := Lib.hid hsf
  clear h hl hc
  have q1 : (f.b.length : Int) - (f.safe : Int) ≤ 9223372036854775807 := by omega
  have q2 : (0 : Int) ≤ (f.b.length : Int) - (f.safe : Int) := by omega
  have q3 : (f.safe : Int) + y = (n : Int) := by omega
  go_enter Tryz.func36, Tryz.ntmps36
  go_wp2_with fail
  go_quiet (fail)
  rw [← hy]
  clear hy
  generalize hW1 : World.drewN w _ = W1
  have ho1 : Only (fun k => k = b) w W1 := by rw [← hW1]; exact ⟨rfl, rfl, rfl, Nat.le_refl _, fun _ _ _ => rfl⟩
  have hz1 : W1.heap.size = w.heap.size := by rw [← hW1]; rfl
  have hf1 : FileAt W1 b (.slice a f.b.length c) f := H.out.same (by rw [← hW1]; rfl) fun k _ => by rw [← hW1]; rfl
  have HO1 := Lib.hid ho1
  have HZ1 := Lib.hid hz1
  have HF1 := Lib.hid hf1
  obtain ⟨d0, d1, -, -, dz, -⟩ := hf1.cells
  clear hW1 ho1 hz1 hf1 c0 c1 f0 f1 hz hst hk1 hk2 q1 q2
  go_wp2_with fail
  refine (FCut_any b _ f n _ HF1.out HS2.out HSF.out).mono ?_
  rintro e w2 ⟨rfl, ho2, hz2, v2, hv2, hf2⟩
  have HO2 := Lib.hid (show Only (fun k => k = b) w w2 from HO1.out.trans (ho2.mono fun k hk => .inl hk))
  have HZ2 : Hid (w2.heap.size = w.heap.size) := Lib.hid (hz2.trans HZ1.out)
  have HV2 := Lib.hid hv2
  have HF2 := Lib.hid hf2
  clear ho2 hz2 hv2 hf2
  obtain ⟨m, hm⟩ : ∃ m, m = f.b.length - n := ⟨_, rfl⟩
  rw [← hm]
  have HM := Lib.hid hm
  clear hm
  go_wp2_with fail
  refine (FSync_any b v2 _ _ HF2.out).mono ?_
  rintro e w3 ⟨rfl, ho3, hz3, hf3⟩
  have HO3 := Lib.hid (show Only (fun k => k = b) w w3 from HO2.out.trans (ho3.mono fun k hk => .inl hk))
  have HZ3 : Hid (w3.heap.size = w.heap.size) := Lib.hid (hz3.trans HZ2.out)
  have HF3 := Lib.hid hf3
  clear ho3 hz3 hf3
  go_wp2_with fail
  go_ret
  refine ⟨by rw [← HM.out]; rfl, HO3.out, HZ3.out, v2, HV2.out, ?_⟩
  have e : (f.b.take n).length = n := by have := HS2.out; simp; omega
  have h3 := HF3.out
  simp only [e] at h3
  exact h3

section
variable (d : Dk) (X : Nat → Prop) (gd : Nat) (s : ByteArray) (w : World)

/-- The file's safe bytes; 0 of one that isn't there. -/
def safeOf (fs : List Fl) (s : ByteArray) : Nat := match fs.find? (fun f => decide (f.nm = s)) with | some f => f.safe | none => 0

theorem find_some {fs : List Fl} (hr : D.Rising fs) {f : Fl} (hf : f ∈ fs) : fs.find? (fun g => decide (g.nm = f.nm)) = some f := by
  cases h : fs.find? (fun g => decide (g.nm = f.nm)) with
  | none =>
    have := List.find?_eq_none.1 h f hf
    simp at this
  | some g =>
    have h1 := List.find?_some h
    have h2 := List.mem_of_find?_eq_some h
    rw [hr.uniq h2 hf (by simpa using h1)]

theorem find_none {fs : List Fl} {s : ByteArray} (h : D.isThere fs s = false) : fs.find? (fun g => decide (g.nm = s)) = none := List.find?_eq_none.2 fun f hf => by
  have := D.isThere_not.1 h f hf
  simpa using this

end

end Go.Proofs.YtamgjlegcegmeaaGreatDoor.M

/- Part: ProjD. -/
namespace Go.Proofs.YtamgjlegcegmeaaGreatDoor.M
open Go.RowKit Go.Maps
open D (Fl Dk)

/-- A file's bytes. -/
def bytesOf (fs : List Fl) (s : ByteArray) : List UInt8 := match fs.find? (fun f => decide (f.nm = s)) with | some f => f.b | none => []

theorem FileAt.rep {w : World} {b : Nat} {v : Value} {f : Fl} (h : FileAt w b v f) : RepB w (fun k => v.ownBlock = some k) f.b v := by
  obtain ⟨a, c, hv⟩ := owned_slice h.2
  rcases h.2.2 with ⟨h1, h2⟩ | ⟨g, cap, cur, hv2, hg, hcur, hn, hm, hs, ht⟩
  · have : f.b = [] := List.length_eq_zero_iff.1 h2
    rw [this, h1]
    exact .inl ⟨rfl, Bare.nil⟩
  · refine .inr ⟨g, 0, cap, hv2, by rw [hv2]; rfl, hn, by unfold maxLen at hm; exact hm, fun i hi => ?_⟩
    have h2 := h.2
    rw [hv2] at h2
    have h3 := h2.cellAt i (by omega)
    rw [Nat.zero_add, h3]
    simp [hi, byteV]

theorem FileAt.nil {w : World} {b : Nat} {a : Option Addr} {n c : Nat} {f : Fl} (h : FileAt w b (.slice a n c) f) (ha : a = none) : n = 0 ∧ c = 0 := by
  subst ha
  rcases h.2.2 with ⟨h1, h2⟩ | ⟨g, cap, cur, hv2, hg, hcur, hn, hm, hs, ht⟩
  · cases h1; exact ⟨rfl, rfl⟩
  · cases hv2

section
variable (d : Dk) (X : Nat → Prop) (gd : Nat) (s : ByteArray) (w : World)

set_option maxRecDepth 20000 in
set_option maxHeartbeats 800000 in
theorem PRead_any (hd : PDskIn w X gd d) (hr : D.Rising d.fs) (hs : s.size ≤ 9223372036854775807) (hu : D.used d.fs ≤ 140737488355328) :
    Calls Tryz.prog 43 #[.pointer (some ⟨gd, 0, none⟩), .string s] w fun e w' => ∃ v, e = .returned (.tuple #[v, .bool (D.isThere d.fs s)]) ∧ Own w (bytesOf d.fs s) v w' := by
  obtain ⟨⟨gm, M, E, hat⟩, hX⟩ := hd
  obtain ⟨⟨-, -, c2⟩, -, hz⟩ := hat.cells
  have hl := hat.look hs (w' := w) rfl
  cases ht : D.isThere d.fs s with
  | false =>
    have HE : Hid (bytesOf d.fs s = []) := Lib.hid (by unfold bytesOf; rw [find_none ht])
    unfold ptrOf at hl
    rw [ht] at hl
    clear hat ht hX
    go_enter Tryz.func43, Tryz.ntmps43
    go_wp2_with fail
    go_ret2
    exact ⟨_, rfl, by rw [HE.out]; exact Own.bare (Below.refl _ _)⟩
  | true =>
    obtain ⟨f, hf, rfl⟩ := D.isThere_mem.1 ht
    have HE : Hid (bytesOf d.fs f.nm = f.b) := Lib.hid (by unfold bytesOf; rw [find_some hr hf])
    unfold ptrOf at hl
    rw [ht] at hl
    have hfa := hat.each f hf
    obtain ⟨c0, -, -, -, hz2, a, c, hv, -⟩ := hfa.cells
    obtain ⟨b, hb⟩ : ∃ b, b = (E f.nm).1 := ⟨_, rfl⟩
    have hown : ∀ k, (E f.nm).2.ownBlock = some k → k < w.heap.size := fun k hk => hX k ((hat.foot.2.2 f hf).2 k hk)
    have hub : f.b.length ≤ 140737488355328 := Nat.le_trans (D.used_mem hf) hu
    rw [hv] at hfa c0 hown
    rw [← hb] at hl c0 hz2 hfa
    have HF := Lib.hid hfa
    have HO := Lib.hid hown
    have HUB := Lib.hid hub
    obtain ⟨n, hn⟩ : ∃ n, n = f.b.length := ⟨_, rfl⟩
    have HN := Lib.hid hn
    rw [← hn] at c0
    clear hat ht hf hb hv hfa hown hX hn hub hu
    go_enter Tryz.func43, Tryz.ntmps43
    go_wp2_with fail
    refine (Clone_any a f.b n c HN.out w _ (by have := HF.out.rep; rw [← HN.out] at this; exact this) (fun k hk => HO.out k (by rw [← HN.out]; exact hk)) (fun ha => by have := HF.out.nil ha; rw [HN.out]; exact this) HUB.out).mono ?_
    rintro e w1 ⟨v, rfl, hown⟩
    obtain ⟨va, vc, rfl⟩ := hown.slice
    have HW := Lib.hid hown
    clear hown
    go_wp2_with fail
    go_ret2
    exact ⟨_, rfl, by rw [HE.out]; exact HW.out⟩
end

set_option maxRecDepth 20000 in
set_option maxHeartbeats 800000 in
theorem Has_any (d : Dk) (X : Nat → Prop) (gd : Nat) (names : List ByteArray) (F : Nat → Prop) (vn : Value) (w : World) (hd : PDsk w X gd d) (hv : RepSl w F names vn) (hF : ∀ k, F k → k < w.heap.size) (hs : ∀ s ∈ names, s.size ≤ 9223372036854775807) :
    Calls Tryz.prog 58 #[.pointer (some ⟨gd, 0, none⟩), vn] w fun e w' => e = .returned (.bool (names.all (D.isThere d.fs))) ∧ w = w' := by
  obtain ⟨na, nc, rfl, hnl⟩ := hv.slice
  obtain ⟨gm, M, E, hat⟩ := hd
  obtain ⟨⟨-, -, c2⟩, -, hz⟩ := hat.cells
  have HAT := Lib.hid hat
  have HV := Lib.hid hv
  have HF := Lib.hid hF
  have HS := Lib.hid hs
  clear hv hF hs hat
  go_enter Tryz.func58, Tryz.ntmps58
  go_wp2_with fail
  go_loop [6, 9] (fun _ i => ∃ k : Nat, k ≤ names.length ∧ i = .int .i64 (k : Int) ∧ Hid ((names.take k).all (D.isThere d.fs) = true)) (fun _ i => names.length - (intOf i).toNat)
  case atStart => exact ⟨0, Nat.zero_le _, rfl, Lib.hid rfl⟩
  case round =>
    obtain ⟨k, hk, rfl, HA⟩ := hrel
    by_cases hlt : k < names.length
    · have hkk : (k : Int) < (names.length : Int) := by omega
      obtain ⟨b, off, rfl, hFb, hc⟩ := HV.out.elem k hlt
      have hbz := HF.out b hFb
      obtain ⟨s, hs⟩ : ∃ s, s = names[k] := ⟨_, rfl⟩
      rw [← hs] at hc
      have HSN := Lib.hid hs
      have hss : s.size ≤ 9223372036854775807 := HS.out s (by rw [hs]; exact List.getElem_mem hlt)
      have hl := HAT.out.look hss (w' := w) rfl
      clear hs hss
      cases ht : D.isThere d.fs s with
      | true =>
        have HN : Hid ((names.take (k + 1)).all (D.isThere d.fs) = true) := Lib.hid (by
          rw [List.take_succ_eq_append_getElem hlt, List.all_append, HA.out, ← HSN.out]
          simp [ht])
        unfold ptrOf at hl
        rw [ht] at hl
        clear ht
        go_wp2_with fail
        go_round
        case rel => exact ⟨k + 1, by omega, by go_num, HN⟩
        case measure => simp [intOf]; omega
      | false =>
        have HN : Hid (names.all (D.isThere d.fs) = false) := Lib.hid (by
          rw [List.all_eq_false]
          exact ⟨names[k], List.getElem_mem hlt, by rw [← HSN.out, ht]; simp⟩)
        unfold ptrOf at hl
        rw [ht] at hl
        clear ht
        go_wp2_with fail
        go_ret
        exact ⟨by rw [HN.out]; rfl, rfl⟩
    · have hkk : ¬ (k : Int) < (names.length : Int) := by omega
      obtain rfl : k = names.length := by omega
      have HN : Hid (names.all (D.isThere d.fs) = true) := Lib.hid (by
        have := HA.out
        rw [List.take_length] at this
        exact this)
      go_wp2_with fail
      go_ret
      exact ⟨by rw [HN.out]; rfl, rfl⟩

/-- What is left of a room. -/
def fitR (room : Int) (bs : List (List UInt8)) : Value := if (bs.flatten.length : Int) ≤ room then .tuple #[.int .i64 (room - bs.flatten.length), .bool true] else .tuple #[.int .i64 0, .bool false]

set_option maxRecDepth 20000 in
set_option maxHeartbeats 800000 in
theorem Fit_any (room : Int) (bs : List (List UInt8)) (F : Nat → Prop) (vb : Value) (w : World) (hr : 0 ≤ room) (hr2 : room ≤ 9223372036854775807) (hv : RepBl w F bs vb) (hF : ∀ k, F k → k < w.heap.size) :
    Calls Tryz.prog 80 #[.int .i64 room, vb] w fun e w' => e = .returned (fitR room bs) ∧ w = w' := by
  obtain ⟨na, nc, rfl, hnl⟩ := hv.slice
  have HV := Lib.hid hv
  have HF := Lib.hid hF
  have HR := Lib.hid hr
  have HR2 := Lib.hid hr2
  clear hv hF hr hr2
  go_enter Tryz.func80, Tryz.ntmps80
  go_wp2_with fail
  go_loop [0, 7, 10] (fun r _ i => ∃ (k : Nat) (y : Int), k ≤ bs.length ∧ i = .int .i64 (k : Int) ∧ r = .int .i64 y ∧ Hid (y = room - ((bs.take k).flatten.length : Int) ∧ 0 ≤ y)) (fun _ _ i => bs.length - (intOf i).toNat)
  case atStart => exact ⟨0, room, Nat.zero_le _, rfl, rfl, Lib.hid ⟨by simp, HR.out⟩⟩
  case round =>
    obtain ⟨k, y, hk, rfl, rfl, HA⟩ := hrel
    by_cases hlt : k < bs.length
    · have hkk : (k : Int) < (bs.length : Int) := by omega
      obtain ⟨b, off, u, rfl, hFb, hc, hu⟩ := HV.out.elem k hlt
      obtain ⟨ua, uc, rfl, hul⟩ := hu.slice
      have hbz := HF.out b hFb
      obtain ⟨x, hx⟩ : ∃ x, x = bs[k].length := ⟨_, rfl⟩
      rw [← hx] at hc hul
      have hsum : ((bs.take (k + 1)).flatten.length : Int) = ((bs.take k).flatten.length : Int) + (x : Int) := by
        rw [List.take_succ_eq_append_getElem hlt, List.flatten_append, List.length_append, hx]
        simp
      have hle : (bs.take (k + 1)).flatten.length ≤ bs.flatten.length := by
        have : bs.flatten = (bs.take (k + 1)).flatten ++ (bs.drop (k + 1)).flatten := by rw [← List.flatten_append, List.take_append_drop]
        rw [this, List.length_append]; omega
      have hy0 := HA.out.2
      have hyr := HR2.out
      have hye := HA.out.1
      by_cases hf : y < (x : Int)
      · have HN : Hid (fitR room bs = .tuple #[.int .i64 0, .bool false]) := Lib.hid (by
          unfold fitR
          rw [if_neg (by omega)])
        clear hsum hle hx hu hye hyr
        go_wp2_with fail
        go_ret2
        exact ⟨by rw [HN.out]; rfl, rfl⟩
      · have hf2 : decide (y < (x : Int)) = false := by simp; omega
        have hy2 : y - (x : Int) ≤ 9223372036854775807 := by omega
        have hy3 : 0 ≤ y - (x : Int) := by omega
        have HN : Hid (y - (x : Int) = room - ((bs.take (k + 1)).flatten.length : Int) ∧ 0 ≤ y - (x : Int)) := Lib.hid ⟨by omega, by omega⟩
        clear hsum hle hx hu hye hyr hf
        go_wp2_with fail
        go_round
        case rel => exact ⟨k + 1, y - x, by omega, by go_num, rfl, HN⟩
        case measure => simp [intOf]; omega
    · have hkk : ¬ (k : Int) < (bs.length : Int) := by omega
      obtain rfl : k = bs.length := by omega
      have HN : Hid (fitR room bs = .tuple #[.int .i64 y, .bool true]) := Lib.hid (by
        have h1 := HA.out
        rw [List.take_length] at h1
        unfold fitR
        rw [if_pos (by omega), h1.1])
      go_wp2_with fail
      go_ret2
      exact ⟨by rw [HN.out]; rfl, rfl⟩
end Go.Proofs.YtamgjlegcegmeaaGreatDoor.M

/- Part: ProjE. -/
namespace Go.Proofs.YtamgjlegcegmeaaGreatDoor.M
open Go.RowKit Go.Maps
open D (Fl Dk)

/-- The state at the head of the loop that lays bytes behind a file's. -/
def PutAt (w : World) (b : Nat) (v0 : Value) (f : Fl) (bs : List (List UInt8)) (k : Nat) (wr : World) : Prop :=
  k ≤ bs.length ∧ Only (fun j => j = b ∨ v0.ownBlock = some j) w wr ∧ ∃ v, FileAt wr b v { f with b := f.b ++ (bs.take k).flatten } ∧ (v.ownBlock = v0.ownBlock ∨ ∃ g, v.ownBlock = some g ∧ w.heap.size ≤ g)

set_option maxRecDepth 20000 in
set_option maxHeartbeats 1600000 in
theorem Lay_any (b : Nat) (v : Value) (f : Fl) (bs : List (List UInt8)) (F : Nat → Prop) (vb : Value) (w : World) (h : FileAt w b v f) (hv : RepBl w F bs vb) (hF : ∀ k, F k → k < w.heap.size ∧ k ≠ b ∧ v.ownBlock ≠ some k) (hu : f.b.length + bs.flatten.length ≤ 140737488355328) :
    Calls Tryz.prog 81 #[.pointer (some ⟨b, 0, none⟩), vb] w fun e w' => e = .returned (.tuple #[]) ∧ PutAt w b v f bs bs.length w' := by
  obtain ⟨ib, hib, hib0, hib1, hib2⟩ := info_parts infoByte
  obtain ⟨na, nc, rfl, hnl⟩ := hv.slice
  have H0 : Hid (PutAt w b v f bs 0 w) := Lib.hid ⟨Nat.zero_le _, Only.refl _ _, v, by simpa using h, .inl rfl⟩
  have hbz := h.cells.2.2.2.2.1
  have hvz : ∀ k, v.ownBlock = some k → k < w.heap.size := fun k hk => (h.2.lt k hk).2
  have HVZ := Lib.hid hvz
  have HV := Lib.hid hv
  have HF := Lib.hid hF
  have HU := Lib.hid hu
  clear hv hF h hu hvz
  go_enter Tryz.func81, Tryz.ntmps81
  go_wp2_with fail
  go_loopw [5, 8] (fun _ i wr => ∃ k : Nat, i = .int .i64 (k : Int) ∧ PutAt w b v f bs k wr) (fun _ i _ => bs.length - (intOf i).toNat)
  case atStart => exact ⟨0, rfl, H0.out⟩
  case round =>
    obtain ⟨k, rfl, hat⟩ := hrel
    obtain ⟨hk, ho, v1, hf1, hn1⟩ := hat
    by_cases hlt : k < bs.length
    · have hkk : (k : Int) < (bs.length : Int) := by omega
      have hv2 : RepBl wr F bs (.slice na bs.length nc) := HV.out.same (fun _ h => h) fun j hj => ho.block j (HF.out j hj).1 fun hh => by
        rcases hh with hh | hh
        · exact (HF.out j hj).2.1 hh
        · exact (HF.out j hj).2.2 hh
      obtain ⟨b1, off, u, rfl, hFb, hc, hu⟩ := hv2.elem k hlt
      have hbz1 : b1 < wr.heap.size := Nat.lt_of_lt_of_le (HF.out b1 hFb).1 ho.size
      obtain ⟨c0, -, f0, -, hz, va, vc, hv1, hlen1, hlen2⟩ := hf1.cells
      obtain ⟨ua, uc, hue, hul⟩ := hu.slice
      obtain ⟨l, hl⟩ : ∃ l, l = f.b ++ (bs.take k).flatten := ⟨_, rfl⟩
      obtain ⟨y, hy⟩ : ∃ y, y = bs[k] := ⟨_, rfl⟩
      rw [← hy] at hu hue hul
      rw [← hl] at hf1
      simp only [← hl] at hv1 hlen1
      have hbound : l.length + y.length ≤ 140737488355328 := by
        have h1 := HU.out
        have h2 : bs.flatten = (bs.take (k + 1)).flatten ++ (bs.drop (k + 1)).flatten := by rw [← List.flatten_append, List.take_append_drop]
        have h3 : (bs.take (k + 1)).flatten = (bs.take k).flatten ++ y := by rw [List.take_succ_eq_append_getElem hlt, List.flatten_append, hy]; simp
        rw [h2, h3, List.length_append, List.length_append] at h1
        rw [hl, List.length_append]
        omega
      have hrow := hf1.2
      have HNE := Lib.hid hf1.ne
      have HSTEP : Hid (∀ (v2 : Value) (w2 : World), AppLeft wr 0 5 1 v1 l.length y.length (l.map byteV) (y.map byteV) v2 w2 → w2.frozen? ⟨b, 0, none⟩ = false ∧ b < w2.heap.size ∧ w2.cell? ⟨b, 0, none⟩ = some v1 ∧ PutAt w b v f bs (k + 1) (w2.setCell ⟨b, 0, none⟩ v2)) := Lib.hid fun v2 w2 happ => by
        obtain ⟨a1, a2, a3⟩ := happ
        have hbw := a2.block b hz (fun e => HNE.out e.symm)
        have hb2 : w2.heap[b]? = some (.cells #[v1, .int .i64 (f.safe : Int)] 107) := hbw.trans hf1.1
        refine ⟨frozen_of_row w2 b 0 _ _ hb2, lt_of_heap hb2, cell_of_row w2 b 0 _ _ _ hb2, by omega, ?_, v2, ⟨?_, ?_⟩, ?_⟩
        · refine (show Only (fun j => j = b ∨ v.ownBlock = some j) w w2 from ⟨a2.os.trans ho.os, a2.tape.trans ho.tape, a2.output.trans ho.output, Nat.le_trans ho.size a2.size, fun j hj hne => ?_⟩).set (.inl (.inl rfl)) _
          rw [a2.block j (Nat.lt_of_lt_of_le hj ho.size) fun e => ?_]
          · exact ho.block j hj hne
          · rcases hn1 with h1 | ⟨g, h1, h2⟩
            · exact hne (.inr (by rw [← h1]; exact e.symm))
            · rw [h1] at e; cases e; omega
        · have h1 := heap_setCell_same _ _ 0 _ _ v2 hb2
          rw [h1]; simp
        · have e1 : f.b ++ (bs.take (k + 1)).flatten = l ++ y := by
            rw [List.take_succ_eq_append_getElem hlt, List.flatten_append, hl, hy]; simp
          rw [show ({ f with b := f.b ++ (bs.take (k + 1)).flatten } : Fl).b = l ++ y from e1, List.length_append, List.map_append]
          refine ownsRow_same a1 fun j hj => Below.heap_setCell _ _ _ _ ?_
          show j ≠ b
          intro e
          subst e
          rcases a3 with h3 | h3
          · exact HNE.out (h3 ▸ hj)
          · rw [h3] at hj; cases hj; omega
        · rcases a3 with h3 | h3
          · rw [h3]; exact hn1
          · exact .inr ⟨_, h3, ho.size⟩
      have HY := Lib.hid hu.yields
      have HROW := Lib.hid hrow
      obtain ⟨len, hlen⟩ : ∃ len, len = l.length := ⟨_, rfl⟩
      obtain ⟨x, hx⟩ : ∃ x, x = y.length := ⟨_, rfl⟩
      subst hue hv1
      rw [← hlen] at HROW HSTEP c0 hbound HNE
      rw [← hx] at HY HSTEP hc hbound
      clear hrow hf1 hn1 hu hv2 hul hl hy ho hlen1 hlen2 hlen hx
      go_wp2_with (at_builtin; refine wpList_append_any _ rfl (.tmp 16) (.tmp 17) 34 rfl 0 5 ib (.int .u8 0) 1 1 Tryz.underlying34 hib hib0 hib1 hib2 rfl (by decide) _ len _ rfl HROW.out _ rfl x _ HY.out (by unfold maxLen; omega) (by omega) (Nat.zero_le _) ?_)
      intro v2 w2 happ
      obtain ⟨g1, g2, g3, g4⟩ := HSTEP.out v2 w2 happ
      obtain ⟨pa, pc, rfl⟩ := owned_slice happ.1
      have HN := Lib.hid g4
      clear happ g4
      go_wp2_with fail
      go_roundw
      case rel => exact ⟨k + 1, by go_num, HN.out⟩
      case measure => simp [intOf]; omega
    · have hkk : ¬ (k : Int) < (bs.length : Int) := by omega
      obtain rfl : k = bs.length := by omega
      have HD : Hid (PutAt w b v f bs bs.length wr) := Lib.hid ⟨hk, ho, v1, hf1, hn1⟩
      clear ho hf1 hn1
      go_wp2_with fail
      go_end0
      exact ⟨rfl, HD.out⟩

set_option maxRecDepth 20000 in
set_option maxHeartbeats 1600000 in
theorem Drop_any (d : Dk) (X : Nat → Prop) (gd gm : Nat) (fr : Int) (M : DataW Nat) (E : ByteArray → Nat × Value) (s : ByteArray) (w : World) (hat : PDAt w X gd d fr gm M E) (hr : D.Rising d.fs) (hs : s.size ≤ 9223372036854775807) (h0 : 0 ≤ fr) (hsum : fr + (D.used d.fs : Int) ≤ 9223372036854775807) :
    Calls Tryz.prog 87 #[.pointer (some ⟨gd, 0, none⟩), .string s] w fun e w' => e = .returned (.tuple #[]) ∧ Only X w w' ∧ w'.heap.size = w.heap.size ∧ (∀ k, k ≠ gd → k ≠ gm → w'.heap[k]? = w.heap[k]?) ∧
      ∃ M', PDAt w' X gd { d with fs := d.fs.eraseIdx (D.find d.fs s) } (fr + ((bytesOf d.fs s).length : Int)) gm M' E := by
  obtain ⟨⟨c0, -, c2⟩, ⟨f0, -, -⟩, hz⟩ := hat.cells
  have hl := hat.look hs (w' := w) rfl
  cases ht : D.isThere d.fs s with
  | false =>
    have HN : Hid (∃ M', PDAt w X gd { d with fs := d.fs.eraseIdx (D.find d.fs s) } (fr + ((bytesOf d.fs s).length : Int)) gm M' E) := Lib.hid ⟨M, by
      have e : bytesOf d.fs s = [] := by unfold bytesOf; rw [find_none ht]
      rw [e, D.erase_beyond ht]
      simpa using hat⟩
    unfold ptrOf at hl
    rw [ht] at hl
    clear hat ht
    go_enter Tryz.func87, Tryz.ntmps87
    go_wp2_with fail
    go_end0
    exact ⟨rfl, Only.refl _ _, rfl, fun _ _ _ => rfl, HN.out⟩
  | true =>
    obtain ⟨f, hf, rfl⟩ := D.isThere_mem.1 ht
    have hbf : bytesOf d.fs f.nm = f.b := by unfold bytesOf; rw [find_some hr hf]
    have hub := D.used_mem hf
    unfold ptrOf at hl
    rw [ht] at hl
    have hfa := hat.each f hf
    obtain ⟨e0, -, -, -, ez, va, vc, hv, hvl, hvc⟩ := hfa.cells
    rw [hv] at e0
    obtain ⟨b, hb⟩ : ∃ b, b = (E f.nm).1 := ⟨_, rfl⟩
    obtain ⟨n, hn⟩ : ∃ n, n = f.b.length := ⟨_, rfl⟩
    have hbk : b ≠ gd := by rw [hb]; exact (hat.kinds.2.1 f hf).1
    rw [← hb] at hl e0 ez
    rw [← hn] at e0
    have hsum2 : fr + (n : Int) ≤ 9223372036854775807 := by omega
    have hsum3 : 0 ≤ fr + (n : Int) := by omega
    have HB : Hid (bytesOf d.fs f.nm = f.b ∧ n = f.b.length) := Lib.hid ⟨hbf, hn⟩
    have HAT := Lib.hid hat
    have HR := Lib.hid hr
    have HT := Lib.hid ht
    have HGM : Hid (gm ≠ gd) := Lib.hid hat.kinds.1
    have hlk : ∀ w' : World, w'.heap[gm]? = w.heap[gm]? → (Instr.lookup 53 (.map (some gm)) (.string f.nm) false).run Tryz.prog w' = .ok (ptrOf d E f.nm) w' := fun w' hw => hat.look hs hw
    have HKEY := Lib.hid (key_of hs)
    clear hat ht hfa hf hv hbf hub hr hb hn hlk hs hvl hvc hsum
    go_enter Tryz.func87, Tryz.ntmps87
    go_wp2_with fail
    go_still_tail 12, (by kernel_rfl)
    go_wp2_with (at_delete; refine wpList_delete_own _ rfl (.tmp 28) (.tmp 29) 53 9 rfl 79 law9 Tryz.underlying53 ptrElem gm _ M rfl (ownsMap_same HAT.out.map (Below.heap_setCell _ _ _ _ HGM.out)) (.string f.nm) _ rfl HKEY.out ?_)
    intro w1 hown1 hturn1
    have HW := Lib.hid hown1
    have HT1 := Lib.hid hturn1
    clear hown1 hturn1
    go_wp2_with fail
    go_end0
    have hg := HT1.out.grown
    have hb2 := heap_setCell_same _ _ 0 _ _ (.int .i64 (fr + (n : Int))) HAT.out.box
    have hsz : w1.heap.size = w.heap.size := by
      obtain ⟨es, c, es', c', h1, h2⟩ := HT1.out
      rw [h2]; simp [Go.ChangeMaps.setBlock]
    have hoth : ∀ k, k ≠ gd → k ≠ gm → w1.heap[k]? = w.heap[k]? := fun k k1 k2 => by
      rcases Nat.lt_or_ge k w.heap.size with h1 | h1
      · have h2 := hg.block k (by simpa using h1) (by simpa using k2)
        exact h2.trans (Below.heap_setCell w ⟨gd, 0, none⟩ _ k (by simpa using k1))
      · rw [Array.getElem?_eq_none (by omega), Array.getElem?_eq_none (by omega)]
    have hgd1 : w1.heap[gd]? = some (.cells #[.int .i64 (fr + (n : Int)), .int .i64 (restOf d), .map (some gm)] 55) := by
      have h2 := hg.block gd (by simpa using hz) (by simpa using HGM.out.symm)
      exact h2.trans (hb2.trans (by simp))
    refine ⟨rfl, ⟨hg.os, hg.tape, hg.output, by omega, fun k _ hk => ?_⟩, hsz, hoth, M.del (.string f.nm.data.toList), ?_⟩
    · exact hoth k (fun e => hk (e ▸ HAT.out.foot.1)) fun e => hk (e ▸ HAT.out.foot.2.1)
    · rw [HB.out.1, ← HB.out.2]
      exact HAT.out.dropped HR.out HT.out rfl HW.out hgd1 hoth
end Go.Proofs.YtamgjlegcegmeaaGreatDoor.M
