/- The program's disk: what is done to one file; Safe, Read. -/
import Derived.Test.YtgiipkmkmomofaaProjB
import Derived.Test.YtgiipkmkmomofaaOwn
import Derived.Deep.QuietTactic
import Derived.BigQuiet
namespace Go.Proofs.Ytgiipkmkmomofaa.M
open Go.RowKit Go.Maps
open D (Fl Dk)

/-- Two cells of a block that is known whole. -/
theorem FileAt.put1 {w : World} {b : Nat} {v : Value} {f : Fl} (h : FileAt w b v f) (hne : v.ownBlock ≠ some b) (n : Nat) : FileAt (w.setCell ⟨b, 1, none⟩ (.int .i64 (n : Int))) b v { f with safe := n } :=
  ⟨by
    have hb := heap_setCell_same _ _ 1 _ _ (.int .i64 (n : Int)) h.1
    rw [hb]; simp, ownsRow_same h.2 fun k hk => Below.heap_setCell _ _ _ _ (by
      show k ≠ b
      intro e; exact hne (e ▸ hk))⟩

theorem ownsRow_take {w : World} {a : Option Addr} {l : List UInt8} {c n : Nat} (h : w.ownsRow 0 5 1 (.slice a l.length c) l.length (l.map byteV)) (hn : n ≤ l.length) :
    w.ownsRow 0 5 1 (.slice a n c) (l.take n).length ((l.take n).map byteV) := by
  have e : (l.take n).length = n := by simp; omega
  rw [e]
  rcases h.2 with ⟨h1, h2⟩ | ⟨g, cap, cur, hv, hg, hcur, hn2, hm, hs, ht⟩
  · simp only [Value.slice.injEq] at h1
    obtain ⟨rfl, h1, rfl⟩ := h1
    have : n = 0 := by omega
    subst this
    exact ⟨by simp, .inl ⟨rfl, rfl⟩⟩
  · cases hv
    refine ⟨by simp; omega, .inr ⟨g, c, cur, rfl, hg, hcur, by omega, hm, hs, ?_⟩⟩
    have h3 : (cur.toList.take (l.length * 1)).take (n * 1) = (l.map byteV).take n := by rw [ht, Nat.mul_one]
    rw [List.take_take, Nat.min_eq_left (by omega)] at h3
    rw [h3, List.map_take]

/-- A file's bytes and its own block. -/
theorem FileAt.ne {w : World} {b : Nat} {v : Value} {f : Fl} (h : FileAt w b v f) : v.ownBlock ≠ some b := fun e => by
  rcases h.2.2 with ⟨h1, h2⟩ | ⟨g, cap, cur, hv, hg, hcur, hn, hm, hs, ht⟩
  · rw [h1] at e; cases e
  · rw [hv] at e
    cases e
    rw [h.1] at hcur
    simp at hcur

theorem Only.one {w : World} {b j : Nat} (v : Value) : Only (fun k => k = b) w (w.setCell ⟨b, j, none⟩ v) := (Only.refl (fun k => k = b) w).set (.inl rfl) v

set_option maxRecDepth 20000 in
theorem FSync_any (b : Nat) (v : Value) (f : Fl) (w : World) (h : FileAt w b v f) :
    Calls Try.prog 50 #[.pointer (some ⟨b, 0, none⟩)] w fun e w' => e = .returned (.tuple #[]) ∧ Only (fun k => k = b) w w' ∧ w'.heap.size = w.heap.size ∧ FileAt w' b v { f with safe := f.b.length } := by
  obtain ⟨c0, c1, f0, f1, hz, a, c, rfl, hl, hc⟩ := h.cells
  have HP := Lib.hid (h.put1 h.ne f.b.length)
  clear h
  have hl2 : (f.b.length : Int) ≤ 9223372036854775807 := by omega
  go_enter Try.func50, Try.ntmps50
  go_wp2_with fail
  go_end0
  exact ⟨rfl, Only.one _, by simp, HP.out⟩

set_option maxRecDepth 20000 in
set_option maxHeartbeats 800000 in
theorem FCut_any (b : Nat) (v : Value) (f : Fl) (n : Nat) (w : World) (h : FileAt w b v f) (hn : n ≤ f.b.length) (hsf : f.safe ≤ f.b.length) :
    Calls Try.prog 52 #[.pointer (some ⟨b, 0, none⟩), .int .i64 (n : Int)] w fun e w' => e = .returned (.int .i64 ((f.b.length - n : Nat) : Int)) ∧ Only (fun k => k = b) w w' ∧ w'.heap.size = w.heap.size ∧
      ∃ v', v'.ownBlock = v.ownBlock ∧ FileAt w' b v' { f with b := f.b.take n, safe := min f.safe n } := by
  obtain ⟨c0, c1, f0, f1, hz, a, c, rfl, hl, hc⟩ := h.cells
  have hne := h.ne
  have H := Lib.hid h
  clear h
  have hl2 : (f.b.length : Int) ≤ 9223372036854775807 := by omega
  have hn2 : (n : Int) ≤ (f.b.length : Int) := by omega
  have hn3 : (n : Int) ≤ (c : Int) := by omega
  have hs2 : (f.safe : Int) ≤ 9223372036854775807 := by omega
  have hfin : Hid (∀ (wx : World) (m : Int), m = ((min f.safe n : Nat) : Int) → wx = (w.setCell ⟨b, 0, none⟩ (.slice a n c)).setCell ⟨b, 1, none⟩ (.int .i64 m) → Only (fun k => k = b) w wx ∧ wx.heap.size = w.heap.size ∧
      ∃ v', v'.ownBlock = (Value.slice a f.b.length c).ownBlock ∧ FileAt wx b v' { f with b := f.b.take n, safe := min f.safe n }) := Lib.hid fun wx m em e => by
    subst e em
    refine ⟨((Only.refl (fun k => k = b) w).set (.inl rfl) _).set (.inl rfl) _, by simp, .slice a n c, by cases a <;> rfl, ?_, ?_⟩
    · have h1 := heap_setCell_same _ _ 0 _ _ (.slice a n c) H.out.1
      have h2 := heap_setCell_same _ _ 1 _ _ (.int .i64 ((min f.safe n : Nat) : Int)) h1
      rw [h2]; simp
    · refine ownsRow_same (ownsRow_take H.out.2 hn) fun k hk => ?_
      have hkb : k ≠ b := fun e => hne (by rw [← e, ← hk]; cases a <;> rfl)
      rw [Below.heap_setCell _ _ _ _ (by exact hkb), Below.heap_setCell _ _ _ _ (by exact hkb)]
  have hnb : n ≤ c := by omega
  go_enter Try.func52, Try.ntmps52
  go_wp2_with fail
  go_ret
  refine ⟨?_, hfin.out _ (min (f.safe : Int) (n : Int)) (by omega) rfl⟩
  have e : ((f.b.length - n : Nat) : Int) = (f.b.length : Int) - (n : Int) := by omega
  rw [e]; rfl

theorem stays_le {f : Fl} (hsf : f.safe ≤ f.b.length) (k : Option Int) : f.safe ≤ D.stays f k ∧ D.stays f k ≤ f.b.length := by
  unfold D.stays
  cases k with
  | none => exact ⟨Nat.le_refl _, hsf⟩
  | some k =>
    simp only
    split <;> omega

set_option maxRecDepth 20000 in
set_option maxHeartbeats 800000 in
/-- What a crash leaves of a file. -/
theorem FCrash_any (b : Nat) (v : Value) (f : Fl) (keep : Int) (w : World) (h : FileAt w b v f) (hsf : f.safe ≤ f.b.length) (hk1 : -9223372036854775808 ≤ keep) (hk2 : keep ≤ 9223372036854775807) :
    Calls Try.prog 39 #[.pointer (some ⟨b, 0, none⟩), .int .i64 keep] w fun e w' => e = .returned (.int .i64 ((f.b.length - D.stays f (some keep) : Nat) : Int)) ∧ Only (fun k => k = b) w w' ∧ w'.heap.size = w.heap.size ∧
      ∃ v', v'.ownBlock = v.ownBlock ∧ FileAt w' b v' { f with b := f.b.take (D.stays f (some keep)), safe := D.stays f (some keep) } := by
  obtain ⟨c0, c1, f0, f1, hz, a, c, rfl, hl, hc⟩ := h.cells
  obtain ⟨s1, s2⟩ := stays_le hsf (some keep)
  have hst : (D.stays f (some keep) : Int) = (f.safe : Int) + min (max keep 0) ((f.b.length : Int) - (f.safe : Int)) := by
    unfold D.stays
    simp only
    split <;> omega
  obtain ⟨n, hn⟩ : ∃ n, n = D.stays f (some keep) := ⟨_, rfl⟩
  rw [← hn] at hst s1 s2 ⊢
  clear hn
  obtain ⟨y, hy⟩ : ∃ y, y = min (max keep 0) ((f.b.length : Int) - (f.safe : Int)) := ⟨_, rfl⟩
  rw [← hy] at hst
  have hfl : f.b.length ≤ 9223372036854775807 := by omega
  have H := Lib.hid h
  have HS2 := Lib.hid s2
  have HSF := Lib.hid hsf
  clear h hl hc
  have q1 : (f.b.length : Int) - (f.safe : Int) ≤ 9223372036854775807 := by omega
  have q2 : (0 : Int) ≤ (f.b.length : Int) - (f.safe : Int) := by omega
  have q3 : (f.safe : Int) + y = (n : Int) := by omega
  go_enter Try.func39, Try.ntmps39
  go_wp2_with fail
  go_quiet (fail)
  rw [← hy]
  clear hy
  generalize hW1 : World.drewN w _ = W1
  have ho1 : Only (fun k => k = b) w W1 := by rw [← hW1]; exact ⟨rfl, rfl, rfl, Nat.le_refl _, fun _ _ _ => rfl⟩
  have hz1 : W1.heap.size = w.heap.size := by rw [← hW1]; rfl
  have hf1 : FileAt W1 b (.slice a f.b.length c) f := H.out.same (by rw [← hW1]; rfl) fun k _ => by rw [← hW1]; rfl
  have HO1 := Lib.hid ho1
  have HZ1 := Lib.hid hz1
  have HF1 := Lib.hid hf1
  obtain ⟨d0, d1, -, -, dz, -⟩ := hf1.cells
  clear hW1 ho1 hz1 hf1 c0 c1 f0 f1 hz hst hk1 hk2 q1 q2
  go_wp2_with fail
  refine (FCut_any b _ f n _ HF1.out HS2.out HSF.out).mono ?_
  rintro e w2 ⟨rfl, ho2, hz2, v2, hv2, hf2⟩
  have HO2 := Lib.hid (show Only (fun k => k = b) w w2 from HO1.out.trans (ho2.mono fun k hk => .inl hk))
  have HZ2 : Hid (w2.heap.size = w.heap.size) := Lib.hid (hz2.trans HZ1.out)
  have HV2 := Lib.hid hv2
  have HF2 := Lib.hid hf2
  clear ho2 hz2 hv2 hf2
  obtain ⟨m, hm⟩ : ∃ m, m = f.b.length - n := ⟨_, rfl⟩
  rw [← hm]
  have HM := Lib.hid hm
  clear hm
  go_wp2_with fail
  refine (FSync_any b v2 _ _ HF2.out).mono ?_
  rintro e w3 ⟨rfl, ho3, hz3, hf3⟩
  have HO3 := Lib.hid (show Only (fun k => k = b) w w3 from HO2.out.trans (ho3.mono fun k hk => .inl hk))
  have HZ3 : Hid (w3.heap.size = w.heap.size) := Lib.hid (hz3.trans HZ2.out)
  have HF3 := Lib.hid hf3
  clear ho3 hz3 hf3
  go_wp2_with fail
  go_ret
  refine ⟨by rw [← HM.out]; rfl, HO3.out, HZ3.out, v2, HV2.out, ?_⟩
  have e : (f.b.take n).length = n := by have := HS2.out; simp; omega
  have h3 := HF3.out
  simp only [e] at h3
  exact h3

section
variable (d : Dk) (X : Nat → Prop) (gd : Nat) (s : ByteArray) (w : World)

/-- The file's safe bytes; 0 of one that isn't there. -/
def safeOf (fs : List Fl) (s : ByteArray) : Nat := match fs.find? (fun f => decide (f.nm = s)) with | some f => f.safe | none => 0

theorem find_some {fs : List Fl} (hr : D.Rising fs) {f : Fl} (hf : f ∈ fs) : fs.find? (fun g => decide (g.nm = f.nm)) = some f := by
  cases h : fs.find? (fun g => decide (g.nm = f.nm)) with
  | none =>
    have := List.find?_eq_none.1 h f hf
    simp at this
  | some g =>
    have h1 := List.find?_some h
    have h2 := List.mem_of_find?_eq_some h
    rw [hr.uniq h2 hf (by simpa using h1)]

theorem find_none {fs : List Fl} {s : ByteArray} (h : D.isThere fs s = false) : fs.find? (fun g => decide (g.nm = s)) = none := List.find?_eq_none.2 fun f hf => by
  have := D.isThere_not.1 h f hf
  simpa using this

set_option maxRecDepth 20000 in
set_option maxHeartbeats 800000 in
theorem PSafe_any (hd : PDsk w X gd d) (hr : D.Rising d.fs) (hs : s.size ≤ 9223372036854775807) :
    Calls Try.prog 18 #[.pointer (some ⟨gd, 0, none⟩), .string s] w fun e w' => e = .returned (.int .i64 (safeOf d.fs s : Int)) ∧ w = w' := by
  obtain ⟨gm, M, E, hat⟩ := hd
  obtain ⟨⟨-, -, c2⟩, -, hz⟩ := hat.cells
  have hl := hat.look hs (w' := w) rfl
  cases ht : D.isThere d.fs s with
  | false =>
    have HE : Hid (safeOf d.fs s = 0) := Lib.hid (by unfold safeOf; rw [find_none ht])
    unfold ptrOf at hl
    rw [ht] at hl
    clear hat ht
    go_enter Try.func18, Try.ntmps18
    go_wp2_with fail
    go_ret
    exact ⟨by rw [HE.out]; rfl, rfl⟩
  | true =>
    obtain ⟨f, hf, rfl⟩ := D.isThere_mem.1 ht
    have HE : Hid (safeOf d.fs f.nm = f.safe) := Lib.hid (by unfold safeOf; rw [find_some hr hf])
    unfold ptrOf at hl
    rw [ht] at hl
    obtain ⟨-, c1, -, -, hz2, -⟩ := (hat.each f hf).cells
    obtain ⟨b, hb⟩ : ∃ b, b = (E f.nm).1 := ⟨_, rfl⟩
    rw [← hb] at hl c1 hz2
    clear hat ht hf hb
    go_enter Try.func18, Try.ntmps18
    go_wp2_with fail
    go_ret
    exact ⟨by rw [HE.out]; rfl, rfl⟩
end

set_option maxRecDepth 20000 in
set_option maxHeartbeats 800000 in
theorem Clone_any (a : Option Addr) (l : List UInt8) (n c : Nat) (hn : n = l.length) (w : World) (F : Nat → Prop) (h : RepB w F l (.slice a n c)) (hF : ∀ k, F k → k < w.heap.size) (hnil : a = none → n = 0 ∧ c = 0) (hl : l.length ≤ 140737488355328) :
    Calls Try.prog 38 #[.slice a n c] w fun e w' => ∃ v, e = .returned v ∧ Own w l v w' := by
  subst hn
  cases a with
  | none =>
    obtain ⟨h1, rfl⟩ := hnil rfl
    have : l = [] := List.length_eq_zero_iff.1 h1
    subst this
    clear h hnil
    have hq : ∀ W : World, (binOp .eql 41 (.slice none 0 0) (.slice none 0 0)).run Try.prog W = .ok (.bool true) W := fun _ => rfl
    go_enter Try.func38, Try.ntmps38
    go_wp2_with fail
    go_ret
    exact ⟨_, rfl, Own.bare (Below.refl _ _)⟩
  | some a =>
    have HR := Lib.hid h
    clear h hnil
    have hq : ∀ W : World, (binOp .eql 41 (.slice (some a) l.length c) (.slice none 0 0)).run Try.prog W = .ok (.bool false) W := fun _ => rfl
    go_enter Try.func38, Try.ntmps38
    go_wp2_with (at_builtin; refine wpList_own_append (w := w) rfl (.tmp 5) (.tmp 6) rfl rfl (L := []) (L2 := l) rfl (Own.lit (Below.refl _ _) rfl) rfl (HR.out.later hF (below_alloc _ _)) (by simp; omega) ?_)
    intro v' w' hown
    have HO := Lib.hid hown
    clear hown
    go_wp2_with fail
    go_ret
    exact ⟨_, rfl, by simpa using HO.out⟩
end Go.Proofs.Ytgiipkmkmomofaa.M
