/- The law DiskStops: a machine that stops. -/
import Derived.Test.YtgiipkmkmomofaaDiskRun
import Derived.Test.YtgiipkmkmomofaaLawDTwins
namespace Go.Proofs.Ytgiipkmkmomofaa.M
open Go.RowKit Go.Maps
open D (Fl Dk)

/-- The same disk, with another count. -/
def halt (d : Dk) (e : Bool) (k : Nat) : Dk := { d with ends := e, calls := k }

theorem halt_append (d : Dk) (e : Bool) (k : Nat) (s : ByteArray) (bs : List (List UInt8)) : appendB (halt d e k) s bs = ((appendB d s bs).1, halt (appendB d s bs).2 e k) := by
  have hf : (halt d e k).free = d.free := rfl
  unfold appendB
  rw [hf]
  by_cases h1 : D.okName s = false
  · rw [if_pos h1, if_pos h1]
  · rw [if_neg h1, if_neg h1]
    by_cases h2 : (bs.flatten.length : Int) > d.free ∨ (D.isThere d.fs s = false ∧ 4096 ≤ d.fs.length)
    · rw [if_pos h2]
      exact if_pos h2
    · rw [if_neg h2]
      exact if_neg h2

theorem halt_sync (d : Dk) (e : Bool) (k : Nat) (l : List ByteArray) : syncB (halt d e k) l = ((syncB d l).1, halt (syncB d l).2 e k) := by
  unfold syncB
  show (if l.all (D.isThere d.fs) = false then _ else _) = _
  split <;> rfl

theorem halt_remove (d : Dk) (e : Bool) (k : Nat) (l : List ByteArray) : removeB (halt d e k) l = ((removeB d l).1, halt (removeB d l).2 e k) := by
  unfold removeB
  show (if D.eachOnce d.fs l = false then _ else _) = _
  split <;> rfl

theorem halt_rename (d : Dk) (e : Bool) (k : Nat) (a b : ByteArray) : renameB (halt d e k) a b = ((renameB d a b).1, halt (renameB d a b).2 e k) := by
  unfold renameB
  show (if D.isThere d.fs a = false ∨ D.okName b = false then _ else match d.fs[D.find d.fs a]? with | none => _ | some f => _) = _
  split
  · rfl
  · cases d.fs[D.find d.fs a]? <;> rfl

theorem halt_cut (d : Dk) (e : Bool) (k : Nat) (s : ByteArray) (n : Int) : cutB (halt d e k) s n = ((cutB d s n).1, halt (cutB d s n).2 e k) := by
  unfold cutB
  show (match d.fs[D.find d.fs s]? with | none => _ | some f => _) = _
  cases d.fs[D.find d.fs s]? with
  | none => rfl
  | some f =>
    simp only
    split <;> rfl

/-- Of the calls that are counted: a body behind the count. -/
theorem act_body {a : Ac} (h : 0 ≤ a.kind ∧ a.kind ≤ 4) : ∃ B : Dk → Int × Dk, (∀ d, act d a = if d.stopped then (32, d) else B d.tick) ∧ ∀ d e k, B (halt d e k) = ((B d).1, halt (B d).2 e k) := by
  rcases (show a.kind = 0 ∨ a.kind = 1 ∨ a.kind = 2 ∨ a.kind = 3 ∨ a.kind = 4 by omega) with h | h | h | h | h
  · exact ⟨fun d => appendB d (a.name 0) a.bs, fun d => by rw [act_0 h, append_eq], fun d e k => halt_append d e k _ _⟩
  · exact ⟨fun d => syncB d a.names, fun d => by rw [act_1 h, sync_eq], fun d e k => halt_sync d e k _⟩
  · exact ⟨fun d => renameB d (a.name 0) (a.name 1), fun d => by rw [act_2 h, rename_eq], fun d e k => halt_rename d e k _ _⟩
  · exact ⟨fun d => removeB d a.names, fun d => by rw [act_3 h, remove_eq], fun d e k => halt_remove d e k _⟩
  · exact ⟨fun d => cutB d (a.name 0) a.n, fun d => by rw [act_4 h, cut_eq], fun d e k => halt_cut d e k _ _⟩

theorem halt_self {d : Dk} (h : d.ends = false) : d = halt d false d.calls := by
  cases d
  simp at h
  simp [halt, h]

/-- A counted call, on a disk that will stop and on one that won't. -/
theorem act_halt {a : Ac} (h : 0 ≤ a.kind ∧ a.kind ≤ 4) {d : Dk} (he : d.ends = false) (k : Nat) : act (halt d true (k + 1)) a = ((act d a).1, halt (act d a).2 true k) ∧ (act d a).2.ends = false := by
  obtain ⟨B, h1, h2⟩ := act_body h
  have e1 : act d a = B d := by
    rw [h1, if_neg (by simp [D.Dk.stopped, he]), show d.tick = d by simp [D.Dk.tick, he]]
  have e2 : (halt d true (k + 1)).tick = halt d true k := by simp [D.Dk.tick, halt]
  refine ⟨by rw [h1, if_neg (by simp [D.Dk.stopped, halt]), e2, h2, e1], ?_⟩
  rw [e1]
  have h3 := h2 d false d.calls
  rw [← halt_self he] at h3
  rw [h3]
  rfl

theorem act_stopped {a : Ac} (h : 0 ≤ a.kind ∧ a.kind ≤ 4) (d : Dk) : act (halt d true 0) a = (32, halt d true 0) := by
  obtain ⟨B, h1, -⟩ := act_body h
  rw [h1, if_pos (by simp [D.Dk.stopped, halt])]

theorem halt_well {d : Dk} (h : Well d) (e : Bool) (k : Nat) (hk : k ≤ 9223372036854775807) : Well (halt d e k) := h.of rfl hk h.1.1.1 h.used h.1.2.1 fun f hf => ⟨h.1.2.2 f hf, h.2 f hf⟩

theorem halt_crash (d : Dk) (e : Bool) (k : Nat) (ks : List Int) : (D.crash (halt d e k) ks).2 = halt (D.crash d ks).2 false k := rfl

/-- Two of the program's disks, and one of the document's. -/
structure T3 (w : World) (X Z Y : Nat → Prop) (ga gb gr : Nat) (dA dB : Dk) (wr : World) : Prop where
  below : Below w.heap.size w wr
  ownX : ∀ k, X k → w.heap.size ≤ k
  ownZ : ∀ k, Z k → w.heap.size ≤ k
  ownY : ∀ k, Y k → w.heap.size ≤ k
  pa : PDskIn wr X ga dA
  pb : PDskIn wr Z gb dB
  qr : DskIn wr Y gr dB
  xz : ∀ k, X k → ¬ Z k
  xy : ∀ k, X k → ¬ Y k
  zy : ∀ k, Z k → ¬ Y k
  wa : Well dA
  wb : Well dB

theorem PDskIn.keep {w w' : World} {X Z : Nat → Prop} {g : Nat} {d : Dk} (h : PDskIn w Z g d) (ho : Only X w w') (hd : ∀ k, X k → ¬ Z k) : PDskIn w' Z g d :=
  ⟨h.1.same (fun _ h => h) fun k hk => ho.block k (h.2 k hk) fun hx => hd k hx hk, fun k hk => Nat.lt_of_lt_of_le (h.2 k hk) ho.size⟩

section
variable {w wr w' : World} {X Z Y : Nat → Prop} {ga gb gr : Nat} {dA dB : Dk}

theorem T3.next (h : T3 w X Z Y ga gb gr dA dB wr) (hb : Below wr.heap.size wr w') : T3 w X Z Y ga gb gr dA dB w' :=
  ⟨h.below.trans (hb.mono h.below.size), h.ownX, h.ownZ, h.ownY, h.pa.next hb, h.pb.next hb, h.qr.below hb, h.xz, h.xy, h.zy, h.wa, h.wb⟩

theorem below_only {w wr w' : World} {S : Nat → Prop} (h : Below w.heap.size w wr) (ho : Only S wr w') (hS : ∀ k, S k → w.heap.size ≤ k) : Below w.heap.size w w' :=
  ⟨ho.os.trans h.os, ho.tape.trans h.tape, ho.output.trans h.output, Nat.le_trans h.size ho.size, fun k hk => by
    rw [ho.block k (Nat.lt_of_lt_of_le hk h.size) fun hn => by have := hS k hn; omega]
    exact h.block k hk⟩

/-- An act on the first, and on a document's disk of its own. -/
theorem T3.actA (h : T3 w X Z Y ga gb gr dA dB wr) {gx : Nat} {dA' e' : Dk} (hgx : wr.heap.size ≤ gx) {wx : World} (hx : Below wr.heap.size wr wx) (hb : Both wx X (fun k => k = gx) ga gx dA' e' w') (hw : Well dA') : ∃ X', T3 w X' Z Y ga gb gr dA' dB w' := by
  have h2 := h.next hx
  obtain ⟨ho, X', Y', hX, -, -, hp, -⟩ := hb
  have hsz := h.below.size
  refine ⟨X', below_only h2.below ho fun k hk => ?_, fun k hk => ?_, h.ownZ, h.ownY, hp, h2.pb.keep ho fun k hk hz => ?_, h2.qr.next ho fun k hk hy => ?_, fun k hk hz => ?_, fun k hk hy => ?_, h.zy, hw, h.wb⟩
  · rcases hk with hk | hk
    · exact h.ownX k hk
    · omega
  · rcases hX k hk with hk | hk
    · exact h.ownX k hk
    · have := hx.size; omega
  · rcases hk with hk | hk
    · exact h.xz k hk hz
    · have := h.pb.2 k hz; omega
  · rcases hk with hk | hk
    · exact h.xy k hk hy
    · have := h.qr.2 k hy; omega
  · rcases hX k hk with hk | hk
    · exact h.xz k hk hz
    · have := h2.pb.2 k hz; omega
  · rcases hX k hk with hk | hk
    · exact h.xy k hk hy
    · have := h2.qr.2 k hy; omega

/-- An act on the second, and on the document's. -/
theorem T3.actB (h : T3 w X Z Y ga gb gr dA dB wr) {dB' : Dk} (hb : Both wr Z Y gb gr dB' dB' w') (hw : Well dB') : ∃ Z' Y', T3 w X Z' Y' ga gb gr dA dB' w' := by
  obtain ⟨ho, Z', Y', hZ, hY, hd, hp, hq⟩ := hb
  have hsz := h.below.size
  refine ⟨Z', Y', below_only h.below ho fun k hk => ?_, h.ownX, fun k hk => ?_, fun k hk => ?_, h.pa.keep ho fun k hk hx => ?_, hp, hq, fun k hk hz => ?_, fun k hk hy => ?_, hd, h.wa, hw⟩
  · rcases hk with hk | hk
    · exact h.ownZ k hk
    · exact h.ownY k hk
  · rcases hZ k hk with hk | hk
    · exact h.ownZ k hk
    · omega
  · rcases hY k hk with hk | hk
    · exact h.ownY k hk
    · omega
  · rcases hk with hk | hk
    · exact h.xz k hx hk
    · exact h.xy k hx hk
  · rcases hZ k hz with hz | hz
    · exact h.xz k hk hz
    · have := h.pa.2 k hk; omega
  · rcases hY k hy with hy | hy
    · exact h.xy k hk hy
    · have := h.pa.2 k hk; omega
end

theorem newRefS (w : World) (n : Int) (g : Nat) (hg : g = w.heap.size) : DskIn (w.alloc (.cells #[.int .i64 n, .slice none 0 0, .bool true, .int .i64 0] 34)) (fun k => k = g) g (halt (fresh n) true 0) := by
  subst hg
  refine ⟨⟨.slice none 0 0, [], ⟨0, heap_alloc_new _ _, (fun _ => rfl)⟩, rfl, World.ownsRow_nil _ _ _ _, (fun p hp => by cases hp), (by simp [blocksOf, Value.ownBlock]), (fun k hk => by simpa [blocksOf, Value.ownBlock] using hk)⟩, fun k hk => by rw [hk]; simp⟩

/-- Two of the program's disks. -/
structure P2 (w : World) (X Z : Nat → Prop) (ga gb : Nat) (dA dB : Dk) (wr : World) : Prop where
  below : Below w.heap.size w wr
  ownX : ∀ k, X k → w.heap.size ≤ k
  ownZ : ∀ k, Z k → w.heap.size ≤ k
  pa : PDskIn wr X ga dA
  pb : PDskIn wr Z gb dB
  xz : ∀ k, X k → ¬ Z k
  wa : Well dA
  wb : Well dB

theorem T3.two {w wr : World} {X Z Y : Nat → Prop} {ga gb gr : Nat} {dA dB : Dk} (h : T3 w X Z Y ga gb gr dA dB wr) : P2 w X Z ga gb dA dB wr := ⟨h.below, h.ownX, h.ownZ, h.pa, h.pb, h.xz, h.wa, h.wb⟩

theorem P2.next {w wr w' : World} {X Z : Nat → Prop} {ga gb : Nat} {dA dB : Dk} (h : P2 w X Z ga gb dA dB wr) (hb : Below wr.heap.size wr w') : P2 w X Z ga gb dA dB w' :=
  ⟨h.below.trans (hb.mono h.below.size), h.ownX, h.ownZ, h.pa.next hb, h.pb.next hb, h.xz, h.wa, h.wb⟩

theorem P2.callA {w wr w' : World} {X Z : Nat → Prop} {ga gb : Nat} {dA dB : Dk} {r : Int × Dk} {e : Ending} (h : P2 w X Z ga gb dA dB wr) (hp : PPost wr X ga r e w') (hw : Well r.2) : P2 w (More X wr w') Z ga gb r.2 dB w' := by
  have hds : DS w X ga dA wr := ⟨h.below, h.ownX, h.pa, h.wa⟩
  have h2 := hds.call hp hw
  refine ⟨h2.below, h2.own, h.ownZ, h2.dsk, h.pb.keep hp.2.1 h.xz, fun k hk hz => ?_, hw, h.wb⟩
  rcases hk with hk | hk
  · exact h.xz k hk hz
  · have := h.pb.2 k hz; omega

theorem P2.dsA {w wr : World} {X Z : Nat → Prop} {ga gb : Nat} {dA dB : Dk} (h : P2 w X Z ga gb dA dB wr) : DS w X ga dA wr := ⟨h.below, h.ownX, h.pa, h.wa⟩

theorem P2.callD {w wr w' : World} {X Z X' : Nat → Prop} {ga gb : Nat} {dA dB dA' : Dk} (h : P2 w X Z ga gb dA dB wr) (ho : Only X wr w') (hX : ∀ k, X' k → X k ∨ wr.heap.size ≤ k) (hd : DS w X' ga dA' w') : P2 w X' Z ga gb dA' dB w' :=
  ⟨hd.below, hd.own, h.ownZ, hd.dsk, h.pb.keep ho h.xz, fun k hk hz => by
    rcases hX k hk with h1 | h1
    · exact h.xz k h1 hz
    · have := h.pb.2 k hz; omega, hd.well, h.wb⟩

theorem P2.swap {w wr : World} {X Z : Nat → Prop} {ga gb : Nat} {dA dB : Dk} (h : P2 w X Z ga gb dA dB wr) : P2 w Z X gb ga dB dA wr := ⟨h.below, h.ownZ, h.ownX, h.pb, h.pa, fun k hk hx => h.xz k hx hk, h.wb, h.wa⟩

theorem halt_last (d : Dk) (he : d.ends = false) (k : Nat) (s : ByteArray) : (D.append (halt d false k) s []).1 = (D.append d s []).1 := by
  rw [append_eq, append_eq, if_neg (by simp [D.Dk.stopped, halt]), if_neg (by simp [D.Dk.stopped, he])]
  rw [show (halt d false k).tick = halt d false k by simp [D.Dk.tick, halt], show d.tick = d by simp [D.Dk.tick, he], halt_append]

/-- The state at the head of the loop over acts. -/
def StAt (w : World) (ga gb gr : Nat) (acts : List Ac) (i k : Nat) (wr : World) : Prop :=
  i ≤ acts.length ∧ k ≤ 19 ∧ ∃ (dB : Dk) (X Z Y : Nat → Prop), dB.ends = false ∧ D.used dB.fs ≤ 2000 * i ∧ T3 w X Z Y ga gb gr (halt dB true k) dB wr

set_option maxRecDepth 40000 in
set_option maxHeartbeats 6400000 in
theorem DiskStops_any (room n : Int) (acts : List Ac) (F : Nat → Prop) (va : Value) (w : World) (hr1 : -9223372036854775808 ≤ room) (hr2 : room ≤ 9223372036854775807) (hn1 : -9223372036854775808 ≤ n) (hn2 : n ≤ 9223372036854775807) (ha : RepAs w F acts va) (hF : ∀ k, F k → k < w.heap.size)
    (hs : Hid (∀ a ∈ acts, asize a ≤ 1099511627776)) :
    Calls Try.prog 7 #[.int .i64 room, va, .int .i64 n] w fun e w' => e = .returned (.bool true) ∧ Below w.heap.size w w' := by
  obtain ⟨aa, ac, rfl, hal⟩ := ha.slice
  have HA := Lib.hid ha
  have HF := Lib.hid hF
  clear ha hF
  by_cases hbad : 60 < acts.length ∨ room < 0
  · go_enter Try.func7, Try.ntmps7
    go_wp2_with fail
    refine (awake3_any w).mono ?_
    rintro e w1 ⟨rfl, hb1⟩
    have HB1 := Lib.hid hb1
    clear hb1
    by_cases h60 : 60 < acts.length
    · have q1 : (60 : Int) < (acts.length : Int) := by omega
      clear hbad
      go_wp2_with fail
      refine (awake3_any w1).mono ?_
      rintro e w2 ⟨rfl, hb2⟩
      have HB2 : Hid (Below w.heap.size w w2) := Lib.hid (HB1.out.trans (hb2.mono HB1.out.size))
      clear hb2
      go_wp2_with fail
      go_ret
      exact ⟨rfl, HB2.out⟩
    · have q1 : decide ((60 : Int) < (acts.length : Int)) = false := by simp; omega
      have q2 : room < 0 := by omega
      clear hbad
      go_wp2_with fail
      refine (awake3_any w1).mono ?_
      rintro e w2 ⟨rfl, hb2⟩
      have HB2 : Hid (Below w.heap.size w w2) := Lib.hid (HB1.out.trans (hb2.mono HB1.out.size))
      clear hb2
      go_wp2_with fail
      go_ret
      exact ⟨rfl, HB2.out⟩
  · have h60 : acts.length ≤ 60 := by omega
    have hr0 : 0 ≤ room := by omega
    have q1 : decide ((60 : Int) < (acts.length : Int)) = false := by simp; omega
    have q2 : decide (room < 0) = false := by simp; omega
    have H60 := Lib.hid h60
    obtain ⟨K, hK, hK2, hx1, hx2⟩ := mod_at2 n 20 (by omega)
    obtain ⟨x, hx⟩ : ∃ x, x = n.tmod 20 := ⟨_, rfl⟩
    rw [← hx] at hK hx1 hx2
    have hxx := hx.symm
    have HRW := Lib.hid (fresh_well hr0 hr2)
    clear hbad h60 hx
    go_enter Try.func7, Try.ntmps7
    go_wp2_with fail
    refine (awake3_any w).mono ?_
    rintro e w1 ⟨rfl, hb1⟩
    have HB1 := Lib.hid hb1
    clear hb1
    go_wp2_with fail
    refine (New_any room w1 hr0).mono ?_
    rintro e w2 ⟨rfl, hb2, hz2, hd2⟩
    have H2 : Hid (DS w _ _ (fresh room) w2) := Lib.hid ⟨HB1.out.trans (hb2.mono HB1.out.size), fun k hk => Nat.le_trans HB1.out.size hk.1, ⟨hd2, fun k hk => by omega⟩, HRW.out⟩
    obtain ⟨ga, hga⟩ : ∃ ga, ga = w1.heap.size + 1 := ⟨_, rfl⟩
    obtain ⟨X2, hX2⟩ : ∃ X2 : Nat → Prop, X2 = fun k => w1.heap.size ≤ k ∧ k < w1.heap.size + 2 := ⟨_, rfl⟩
    rw [← hga, ← hX2] at H2
    rw [← hga]
    clear hb2 hz2 hd2 hga hX2
    go_wp2_with fail
    refine (New_any room w2 hr0).mono ?_
    rintro e w3 ⟨rfl, hb3, hz3, hd3⟩
    have H3 : Hid (P2 w X2 (fun k => w2.heap.size ≤ k ∧ k < w2.heap.size + 2) ga (w2.heap.size + 1) (fresh room) (fresh room) w3) := Lib.hid ⟨(H2.out.next hb3).below, H2.out.own, fun k hk => Nat.le_trans H2.out.below.size hk.1, (H2.out.next hb3).dsk, ⟨hd3, fun k hk => by omega⟩, fun k hk hk2 => by have := H2.out.lt k hk; omega, HRW.out, HRW.out⟩
    obtain ⟨gb, hgb⟩ : ∃ gb, gb = w2.heap.size + 1 := ⟨_, rfl⟩
    obtain ⟨Z2, hZ2⟩ : ∃ Z2 : Nat → Prop, Z2 = fun k => w2.heap.size ≤ k ∧ k < w2.heap.size + 2 := ⟨_, rfl⟩
    rw [← hgb, ← hZ2] at H3
    rw [← hgb]
    clear hb3 hz3 hd3 hgb hZ2
    obtain ⟨gr, hgr⟩ : ∃ gr, gr = w3.heap.size := ⟨_, rfl⟩
    obtain ⟨w4, hw4⟩ : ∃ w4, w4 = w3.alloc (.cells #[.int .i64 room, .slice none 0 0, .bool false, .int .i64 0] 34) := ⟨_, rfl⟩
    have H4 : Hid (T3 w X2 Z2 (fun k => k = gr) ga gb gr (fresh room) (fresh room) w4) := Lib.hid (by
      have hb : Below w3.heap.size w3 w4 := by rw [hw4]; exact below_alloc _ _
      have h := H3.out.next hb
      exact ⟨h.below, h.ownX, h.ownZ, fun k hk => by rw [hk, hgr]; exact H3.out.below.size, h.pa, h.pb, by rw [hw4]; exact newRef w3 room gr hgr, h.xz, fun k hk hk2 => by have := H3.out.pa.2 k hk; omega, fun k hk hk2 => by have := H3.out.pb.2 k hk; omega, h.wa, h.wb⟩)
    have HGR := Lib.hid hgr
    have HW4 := Lib.hid hw4
    clear hgr hw4
    go_wp2_with fail
    rw [← HGR.out, ← HW4.out]
    refine (PStop_any (fresh room) X2 ga w4 (K : Int) H4.out.pa.1 (by omega)).mono ?_
    rintro e w5 ⟨rfl, ho5, hd5, hz5⟩
    have e5 : D.stop (fresh room) (K : Int) = halt (fresh room) true K := by simp [D.stop, halt]
    rw [e5] at hd5
    have H5 : Hid (StAt w ga gb gr acts 0 K w5) := Lib.hid (by
      refine ⟨Nat.zero_le _, by omega, fresh room, X2, Z2, fun k => k = gr, rfl, Nat.le_refl _, ?_⟩
      have h := H4.out
      exact ⟨below_only h.below ho5 h.ownX, h.ownX, h.ownZ, h.ownY, ⟨hd5, fun k hk => by rw [hz5]; exact h.pa.2 k hk⟩, h.pb.keep ho5 h.xz, h.qr.next ho5 h.xy, h.xz, h.xy, h.zy, halt_well h.wa _ _ (by omega), h.wb⟩)
    clear ho5 hd5 hz5 e5 hxx hK hx1 hx2
    go_wp2_with fail
    go_loopw [12, 13, 14, 15] (fun kk i _ _ wr => ∃ (j k : Nat), i = .int .i64 (j : Int) ∧ kk = .int .i64 (k : Int) ∧ StAt w ga gb gr acts j k wr) (fun _ i _ _ _ => acts.length - (intOf i).toNat)
    case atStart => exact ⟨0, K, rfl, rfl, H5.out⟩
    case round =>
      obtain ⟨j, k, rfl, rfl, hj, hk19, dB, X, Z, Y, hdb, hus, ht3⟩ := hrel
      have HT := Lib.hid ht3
      have HDB := Lib.hid hdb
      have HUS : Hid (D.used dB.fs ≤ 2000 * j) := Lib.hid hus
      have HU : Hid (D.used dB.fs ≤ 120000) := Lib.hid (by have := H60.out; omega)
      have hk20 : (k : Int) ≤ 19 := by omega
      clear ht3 hdb hus
      by_cases hlt : j < acts.length
      · have hkk : (j : Int) < (acts.length : Int) := by omega
        have ha2 : RepAs wr F acts (.slice aa acts.length ac) := HA.out.same (fun _ h => h) fun i hi => HT.out.below.block i (HF.out i hi)
        obtain ⟨b, off, rfl, hFb, x0, x1, x2, x3, x4, c0, c1, c2, c3, c4, hra⟩ := ha2.elem j hlt
        have hbz : b < wr.heap.size := Nat.lt_of_lt_of_le (HF.out b hFb) HT.out.below.size
        have HRA0 := Lib.hid hra
        have hx0 := hra.1
        subst hx0
        obtain ⟨kd, hkd⟩ : ∃ kd, kd = acts[j].kind := ⟨_, rfl⟩
        have HKD := Lib.hid hkd
        rw [← hkd] at c0 HRA0
        have HRA := HRA0
        have HFB := Lib.hid hFb
        have HAS : Hid (Hid (asize acts[j] ≤ 1099511627776)) := Lib.hid (Lib.hid (hs.out _ (List.getElem_mem hlt)))
        have HFW : Hid (∀ i, F i → i < wr.heap.size) := Lib.hid fun i hi => Nat.lt_of_lt_of_le (HF.out i hi) HT.out.below.size
        have HC : Hid (∀ w' : World, Below w.heap.size w w' → (w'.cell? ⟨b, off + j * 5, none⟩ = some (.int .i64 kd) ∧ w'.cell? ⟨b, off + j * 5 + 1, none⟩ = some x1 ∧ w'.cell? ⟨b, off + j * 5 + 2, none⟩ = some x2 ∧ w'.cell? ⟨b, off + j * 5 + 3, none⟩ = some x3 ∧ w'.cell? ⟨b, off + j * 5 + 4, none⟩ = some x4) ∧ b < w'.heap.size ∧ RepA w' F acts[j] (.int .i64 kd) x1 x2 x3 x4) := Lib.hid fun w' hb => by
          have e : ∀ i, w'.cell? ⟨b, i, none⟩ = wr.cell? ⟨b, i, none⟩ := fun i => World.cell?_of_block (a := ⟨b, i, none⟩) ((hb.block b (HF.out b hFb)).trans (HT.out.below.block b (HF.out b hFb)).symm)
          exact ⟨⟨(e _).trans c0, (e _).trans c1, (e _).trans c2, (e _).trans c3, (e _).trans c4⟩, Nat.lt_of_lt_of_le (HF.out b hFb) hb.size, HRA.out.same (fun _ h => h) fun i hi => (hb.block i (HF.out i hi)).trans (HT.out.below.block i (HF.out i hi)).symm⟩
        clear ha2 hra hFb hkd HRA0
        go_wp2_with fail
        refine (ActSize_any acts[j] F (.int .i64 kd) x1 x2 x3 x4 wr HRA.out HFW.out HAS.out).mono ?_
        rintro e w6 ⟨rfl, hb6⟩
        have H6 : Hid (T3 w X Z Y ga gb gr (halt dB true k) dB w6) := Lib.hid (HT.out.next hb6)
        obtain ⟨⟨d0, d1, d2, d3, d4⟩, dz, -⟩ := HC.out w6 H6.out.below
        obtain ⟨z, hz⟩ : ∃ z, z = asize acts[j] := ⟨_, rfl⟩
        rw [← hz]
        have HZ := Lib.hid hz
        clear hz hb6 c0 c1 c2 c3 c4 hbz
        by_cases hbig : 2000 < z
        · have q3 : (2000 : Int) < (z : Int) := by omega
          clear hbig
          go_wp2_with fail
          go_ret
          exact ⟨rfl, H6.out.below⟩
        · have q3 : decide ((2000 : Int) < (z : Int)) = false := by simp; omega
          have HZ2 : Hid (asize acts[j] ≤ 2000) := Lib.hid (by rw [← HZ.out]; omega)
          clear hbig
          have HUF : Hid (acts[j].bs.flatten.length ≤ 2000) := Lib.hid (by have h1 := asize_flat acts[j]; have h2 := HZ2.out; omega)
          have HN64 : Hid (Int64 acts[j].n) := Lib.hid HRA.out.2.2.2.2.2.2.1
          have HFO : Hid (∀ i, F i → i < w6.heap.size) := Lib.hid fun i hi => Nat.lt_of_lt_of_le (HF.out i hi) H6.out.below.size
          have HSZ6 : Hid (w.heap.size ≤ w6.heap.size) := Lib.hid H6.out.below.size
          by_cases hk1 : kd < 0
          · have HN : Hid (StAt w ga gb gr acts (j + 1) k w6) := Lib.hid ⟨by omega, hk19, dB, X, Z, Y, HDB.out, by have := HUS.out; omega, H6.out⟩
            go_wp2_with fail
            go_roundw
            case rel => exact ⟨j + 1, k, by go_num, rfl, HN.out⟩
            case measure => simp [intOf]; omega
          · have q4 : decide (kd < 0) = false := by simp; omega
            by_cases hk4 : 4 < kd
            · have HN : Hid (StAt w ga gb gr acts (j + 1) k w6) := Lib.hid ⟨by omega, hk19, dB, X, Z, Y, HDB.out, by have := HUS.out; omega, H6.out⟩
              clear hk1
              go_wp2_with fail
              go_roundw
              case rel => exact ⟨j + 1, k, by go_num, rfl, HN.out⟩
              case measure => simp [intOf]; omega
            · have q5 : decide (4 < kd) = false := by simp; omega
              have HKIN : Hid (0 ≤ acts[j].kind ∧ acts[j].kind ≤ 4) := Lib.hid (by rw [← HKD.out]; omega)
              clear hk1 hk4
              obtain ⟨gx, hgx⟩ : ∃ gx, gx = w6.heap.size := ⟨_, rfl⟩
              obtain ⟨wx, hwx⟩ : ∃ wx, wx = w6.alloc (.cells #[.int .i64 room, .slice none 0 0, .bool true, .int .i64 0] 34) := ⟨_, rfl⟩
              have HBX : Hid (Below w6.heap.size w6 wx) := Lib.hid (by rw [hwx]; exact below_alloc _ _)
              have HX6 : Hid (T3 w X Z Y ga gb gr (halt dB true k) dB wx) := Lib.hid (H6.out.next HBX.out)
              have HQX : Hid (DskIn wx (fun i => i = gx) gx (halt (fresh room) true 0)) := Lib.hid (by rw [hwx]; exact newRefS w6 room gx hgx)
              have HGX := Lib.hid hgx
              have HWX := Lib.hid hwx
              obtain ⟨-, -, hraX⟩ := HC.out wx HX6.out.below
              have HRX := Lib.hid hraX
              have HFX : Hid (∀ i, F i → i < wx.heap.size ∧ ¬ X i ∧ ¬ Z i ∧ ¬ Y i ∧ i ≠ gx) := Lib.hid fun i hi => by
                have h1 := HF.out i hi
                have h2 := HX6.out
                exact ⟨Nat.lt_of_lt_of_le h1 h2.below.size, fun h => by have := h2.ownX i h; omega, fun h => by have := h2.ownZ i h; omega, fun h => by have := h2.ownY i h; omega, by have := HSZ6.out; omega⟩
              clear hgx hwx hraX
              by_cases hk0 : k = 0
              · have q6 : ((k : Int) == 0) = true := by simp; omega
                have HK0 := Lib.hid hk0
                clear hk0
                go_wp2_with fail
                rw [← HGX.out, ← HWX.out]
                refine (ActDo_any acts[j] (halt dB true k) (halt (fresh room) true 0) X (fun i => i = gx) ga gx F (.int .i64 kd) x1 x2 x3 x4 wx HX6.out.pa HQX.out (fun i hi h => by have := H6.out.pa.2 i hi; have := HGX.out; omega) HX6.out.wa (halt_well HRW.out _ _ (by omega)) HRX.out (fun i hi => ⟨(HFX.out i hi).1, (HFX.out i hi).2.1, (HFX.out i hi).2.2.2.2⟩) (Lib.hid (by
                  have h1 := HU.out
                  have h2 := HUF.out
                  have h3 : D.used (halt dB true k).fs = D.used dB.fs := rfl
                  have h4 : D.used (halt (fresh room) true 0).fs = 0 := rfl
                  omega))).mono ?_
                rintro e w7 ⟨rfl, hb7⟩
                have ea : act (halt dB true k) acts[j] = (32, halt dB true k) := by rw [HK0.out]; exact act_stopped HKIN.out dB
                have eb : act (halt (fresh room) true 0) acts[j] = (32, halt (fresh room) true 0) := act_stopped HKIN.out _
                rw [ea, eb] at hb7 ⊢
                obtain ⟨X', hT7⟩ := H6.out.actA (Nat.le_of_eq HGX.out.symm) HBX.out hb7 HX6.out.wa
                have HN : Hid (StAt w ga gb gr acts (j + 1) k w7) := Lib.hid ⟨by omega, hk19, dB, X', Z, Y, HDB.out, by have := HUS.out; omega, hT7⟩
                clear hb7 ea eb hT7
                go_wp2_with fail
                go_roundw
                case rel => exact ⟨j + 1, k, by go_num, rfl, HN.out⟩
                case measure => simp [intOf]; omega
              · have q6 : ((k : Int) == 0) = false := beq_eq_false_iff_ne.2 (by omega)
                obtain ⟨k', hk'⟩ : ∃ k', k = k' + 1 := ⟨k - 1, by omega⟩
                have q7 : (k : Int) - 1 = (k' : Int) := by omega
                have HK' := Lib.hid hk'
                clear hk0 hk'
                go_wp2_with fail
                rw [← HWX.out]
                refine (ActDo_any acts[j] dB dB Z Y gb gr F (.int .i64 kd) x1 x2 x3 x4 wx HX6.out.pb HX6.out.qr HX6.out.zy HX6.out.wb HX6.out.wb HRX.out (fun i hi => ⟨(HFX.out i hi).1, (HFX.out i hi).2.2.1, (HFX.out i hi).2.2.2.1⟩) (Lib.hid (by
                  have h1 := HU.out
                  have h2 := HUF.out
                  omega))).mono ?_
                rintro e w7 ⟨rfl, hb7⟩
                have eb : ((act dB acts[j]).1 == (act dB acts[j]).1) = true := by simp
                rw [eb]
                obtain ⟨hwB, huB⟩ := act_well HX6.out.wb acts[j] HN64.out
                obtain ⟨Z', Y', hT7⟩ := HX6.out.actB hb7 hwB
                have H7 : Hid (T3 w X Z' Y' ga gb gr (halt dB true k) (act dB acts[j]).2 w7) := Lib.hid hT7
                obtain ⟨⟨m0, m1, m2, m3, m4⟩, mz, -⟩ := HC.out w7 H7.out.below
                obtain ⟨gy, hgy⟩ : ∃ gy, gy = w7.heap.size := ⟨_, rfl⟩
                obtain ⟨wy, hwy⟩ : ∃ wy, wy = w7.alloc (.cells #[.int .i64 room, .slice none 0 0, .bool false, .int .i64 0] 34) := ⟨_, rfl⟩
                have HBY : Hid (Below w7.heap.size w7 wy) := Lib.hid (by rw [hwy]; exact below_alloc _ _)
                have HX7 : Hid (T3 w X Z' Y' ga gb gr (halt dB true k) (act dB acts[j]).2 wy) := Lib.hid (H7.out.next HBY.out)
                have HQY : Hid (DskIn wy (fun i => i = gy) gy (fresh room)) := Lib.hid (by rw [hwy]; exact newRef w7 room gy hgy)
                have HGY := Lib.hid hgy
                have HWY := Lib.hid hwy
                obtain ⟨-, -, hraY⟩ := HC.out wy HX7.out.below
                have HRY := Lib.hid hraY
                have HWB := Lib.hid hwB
                have HUB := Lib.hid huB
                clear hb7 eb hT7 hwB huB hgy hwy hraY
                go_wp2_with fail
                rw [← HGY.out, ← HWY.out]
                refine (ActDo_any acts[j] (halt dB true k) (fresh room) X (fun i => i = gy) ga gy F (.int .i64 kd) x1 x2 x3 x4 wy HX7.out.pa HQY.out (fun i hi h => by have := H7.out.pa.2 i hi; have := HGY.out; omega) HX7.out.wa HRW.out HRY.out (fun i hi => ⟨Nat.lt_of_lt_of_le (HF.out i hi) HX7.out.below.size, (HFX.out i hi).2.1, by have := HF.out i hi; have := H7.out.below.size; have := HGY.out; omega⟩) (Lib.hid (by
                  have h1 := HU.out
                  have h2 := HUF.out
                  have h3 : D.used (halt dB true k).fs = D.used dB.fs := rfl
                  have h4 : D.used (fresh room).fs = 0 := rfl
                  omega))).mono ?_
                rintro e w8 ⟨rfl, hb8⟩
                have eh := act_halt HKIN.out HDB.out k'
                rw [← HK'.out] at eh
                have ea : (act (halt dB true k) acts[j]).2 = halt (act dB acts[j]).2 true k' := by rw [eh.1]
                rw [ea] at hb8
                obtain ⟨X', hT8⟩ := H7.out.actA (Nat.le_of_eq HGY.out.symm) HBY.out hb8 (halt_well HWB.out _ _ (by omega))
                have HN : Hid (StAt w ga gb gr acts (j + 1) k' w8) := Lib.hid ⟨by omega, by omega, (act dB acts[j]).2, X', Z', Y', eh.2, by have := HUS.out; have := HUB.out; have := HUF.out; omega, hT8⟩
                clear hb8 eh ea hT8
                go_wp2_with fail
                go_roundw
                case rel => exact ⟨j + 1, k', by go_num, rfl, HN.out⟩
                case measure => simp [intOf]; omega
      · have hkk : ¬ (j : Int) < (acts.length : Int) := by omega
        have HP : Hid (P2 w X Z ga gb (halt dB true k) dB wr) := Lib.hid HT.out.two
        clear hlt
        obtain ⟨wo, hwo⟩ : ∃ wo : World, wo = wr := ⟨_, rfl⟩
        subst hwo
        obtain ⟨d5, hd5⟩ : ∃ d5, d5 = (D.crash dB [1, 2]).2 := ⟨_, rfl⟩
        obtain ⟨d6, hd6⟩ : ∃ d6, d6 = halt d5 false k := ⟨_, rfl⟩
        have HSAME : Hid (d6.fs = d5.fs ∧ d6.free = d5.free ∧ (D.append d6 nmA []).1 = (D.append d5 nmA []).1) := Lib.hid (by
          rw [hd6]
          exact ⟨rfl, rfl, halt_last d5 (by rw [hd5]; rfl) k nmA⟩)
        have HU5 : Hid (D.used d5.fs ≤ 120000) := Lib.hid (by
          have h1 := (crash_well HP.out.wb [1, 2]).2
          rw [← hd5] at h1
          have := HU.out
          omega)
        go_wp2_with fail
        obtain ⟨a1, a2, a3⟩ := HP.out.dsA.ints [1, 2] 2 rfl (by decide) (by decide) 3 rfl
        refine (DCrash a1 [1, 2] _ _ a2 a3).mono ?_
        rintro e w10 ⟨rfl, ho10, X10, hX10, h10⟩
        rw [halt_crash] at h10
        replace h10 : DS w X10 ga (halt (D.crash dB [1, 2]).2 false k) w10 := h10
        rw [← hd5, ← hd6] at h10
        have H10 : Hid (P2 w X10 Z ga gb d6 dB w10) := Lib.hid ((HP.out.next (below_alloc _ _)).callD ho10 hX10 h10)
        clear a1 a2 a3 h10 ho10 hX10
        go_wp2_with fail
        obtain ⟨a1, a2, a3⟩ := H10.out.swap.dsA.ints [1, 2] 2 rfl (by decide) (by decide) 3 rfl
        refine (DCrash a1 [1, 2] _ _ a2 a3).mono ?_
        rintro e w11 ⟨rfl, ho11, Z11, hZ11, h11⟩
        replace h11 : DS w Z11 gb (D.crash dB [1, 2]).2 w11 := h11
        rw [← hd5] at h11
        have H11 : Hid (P2 w X10 Z11 ga gb d6 d5 w11) := Lib.hid ((H10.out.swap.next (below_alloc _ _)).callD ho11 hZ11 h11).swap
        clear a1 a2 a3 h11 ho11 hZ11 hd5 hd6
        have hfl : d5.fs.length ≤ 4096 := H11.out.wb.1.1.1
        go_wp2_with fail
        refine (Names_any d6 X10 ga w11 H11.out.pa H11.out.wa.1.2.1 (by rw [HSAME.out.1]; omega)).mono ?_
        rintro e w12 ⟨v, rfl, hb12, hrow12⟩
        rw [HSAME.out.1] at hrow12
        obtain ⟨pa, pc, rfl⟩ := owned_slice hrow12
        have H12 : Hid (P2 w X10 Z11 ga gb d6 d5 w12) := Lib.hid (H11.out.next hb12)
        have HROWP := Lib.hid hrow12
        have HB12 := Lib.hid hb12
        clear hb12 hrow12
        go_wp2_with fail
        refine (Names_any d5 Z11 gb w12 H12.out.pb H12.out.wb.1.2.1 (by omega)).mono ?_
        rintro e w13 ⟨v, rfl, hb13, hrow13⟩
        obtain ⟨qa, qc, rfl⟩ := owned_slice hrow13
        have H13 : Hid (P2 w X10 Z11 ga gb d6 d5 w13) := Lib.hid (H12.out.next hb13)
        have HPC : Hid (∀ i, i < d5.fs.length → ∃ g, pa = some ⟨g, 0, none⟩ ∧ g < w13.heap.size ∧ w13.cell? ⟨g, i, none⟩ = (d5.fs.map fun f => Value.string f.nm)[i]?) := Lib.hid fun i hi => by
          obtain ⟨g, h1, h2, h3, h4⟩ := row_cell HROWP.out i hi
          exact ⟨g, h1, Nat.lt_of_lt_of_le h3 hb13.size, (World.cell?_of_block (a := ⟨g, i, none⟩) (hb13.block g h3)).trans h4⟩
        have HQC : Hid (∀ i, i < d5.fs.length → ∃ g, qa = some ⟨g, 0, none⟩ ∧ g < w13.heap.size ∧ w13.cell? ⟨g, i, none⟩ = (d5.fs.map fun f => Value.string f.nm)[i]?) := Lib.hid fun i hi => by
          obtain ⟨g, h1, h2, h3, h4⟩ := row_cell hrow13 i hi
          exact ⟨g, h1, h3, h4⟩
        clear hb13 hrow13
        go_wp2_with fail
        refine (PFree_any d6 X10 ga w13 H13.out.pa.1).mono ?_
        rintro e w14 ⟨rfl, rfl⟩
        rw [HSAME.out.2.1]
        go_wp2_with fail
        refine (PFree_any d5 Z11 gb w13 H13.out.pb.1).mono ?_
        rintro e w14 ⟨rfl, rfl⟩
        go_wp2_with fail
        go_loopw [18, 19, 20, 21, 22] (fun i _ _ _ _ wr => ∃ m : Nat, i = .int .i64 (m : Int) ∧ m ≤ d5.fs.length ∧ Below w13.heap.size w13 wr) (fun i _ _ _ _ _ => d5.fs.length - (intOf i).toNat)
        case atStart => exact ⟨0, rfl, Nat.zero_le _, Below.refl _ _⟩
        case round =>
          obtain ⟨m, rfl, hm, hbr⟩ := hrel
          have HR : Hid (P2 w X10 Z11 ga gb d6 d5 wr) := Lib.hid (H13.out.next hbr)
          have HBR := Lib.hid hbr
          clear hbr
          by_cases hlm : m < d5.fs.length
          · have hmm : (m : Int) < (d5.fs.length : Int) := by omega
            obtain ⟨gp, hpa, hgp, hcp⟩ := HPC.out m hlm
            obtain ⟨gq, hqa, hgq, hcq⟩ := HQC.out m hlm
            subst hpa hqa
            obtain ⟨f, hfe⟩ : ∃ f, f = d5.fs[m] := ⟨_, rfl⟩
            rw [List.getElem?_map, List.getElem?_eq_getElem hlm, ← hfe] at hcp hcq
            have hfm : f ∈ d5.fs := by rw [hfe]; exact List.getElem_mem _
            have hec : ∀ g j, g < w13.heap.size → wr.cell? ⟨g, j, none⟩ = w13.cell? ⟨g, j, none⟩ := fun g j hg => World.cell?_of_block (a := ⟨g, j, none⟩) (HBR.out.block g hg)
            have hcp1 : wr.cell? ⟨gp, m, none⟩ = some (.string f.nm) := (hec gp m hgp).trans hcp
            have hzr := HBR.out.size
            have hgp1 : gp < wr.heap.size := by omega
            have HNS := Lib.hid (H13.out.wb.names f hfm)
            have HBO : Hid (bytesOf d5.fs f.nm = f.b ∧ D.isThere d5.fs f.nm = true) := Lib.hid (by
              unfold bytesOf
              rw [find_some H13.out.wb.1.2.1 hfm]
              exact ⟨rfl, D.isThere_mem.2 ⟨f, hfm, rfl⟩⟩)
            have hfu : f.b.length ≤ 120000 := by have := D.used_mem hfm; have := HU5.out; omega
            have HCP := Lib.hid hcp
            have HCQ : Hid (w13.cell? ⟨gq, m, none⟩ = some (.string f.nm)) := Lib.hid hcq
            clear hfe hfm hec hcp hcq
            go_wp2_with fail
            refine (PRead_any d6 X10 ga f.nm wr HR.out.pa HR.out.wa.1.2.1 HNS.out (by rw [HSAME.out.1]; have := HU5.out; omega)).mono ?_
            rintro e w14 ⟨v, rfl, hown⟩
            rw [HSAME.out.1, HBO.out.1] at hown
            rw [HSAME.out.1, HBO.out.2]
            obtain ⟨va, vc, rfl⟩ := hown.slice
            obtain ⟨L, hL⟩ : ∃ L, L = f.b.length := ⟨_, rfl⟩
            have HREP1 : Hid (RepB w14 (fun b => wr.heap.size ≤ b ∧ b < w14.heap.size) f.b (.slice va f.b.length vc)) := Lib.hid hown.rep
            rw [← hL] at hown hfu ⊢
            have HL := Lib.hid hL
            have H14 : Hid (P2 w X10 Z11 ga gb d6 d5 w14) := Lib.hid (HR.out.next hown.1)
            have HB14 : Hid (Below w13.heap.size w13 w14) := Lib.hid (HBR.out.trans (hown.1.mono hzr))
            have hz14 := HB14.out.size
            have hcq1 : w14.cell? ⟨gq, m, none⟩ = some (.string f.nm) := (World.cell?_of_block (a := ⟨gq, m, none⟩) (HB14.out.block gq hgq)).trans HCQ.out
            have hgq1 : gq < w14.heap.size := by omega
            clear hown hL hcp1
            go_wp2_with fail
            refine (PRead_any d5 Z11 gb f.nm w14 H14.out.pb H14.out.wb.1.2.1 HNS.out (by have := HU5.out; omega)).mono ?_
            rintro e w15 ⟨v, rfl, hown2⟩
            rw [HBO.out.1] at hown2
            rw [HBO.out.2]
            have H15 : Hid (P2 w X10 Z11 ga gb d6 d5 w15) := Lib.hid (H14.out.next hown2.1)
            have HB15 : Hid (Below w13.heap.size w13 w15) := Lib.hid (HB14.out.trans (hown2.1.mono hz14))
            have hz15 := HB15.out.size
            have hst2 := fun m => run_string (P := Try.prog) (w := w15.drewN m) (hown2.rep.same (fun _ h => h) fun _ _ => rfl) 41 5 9 Try.underlying41 Try.underlying5 Try.underlying9
            have hst1 := fun m => run_string (P := Try.prog) (w := w15.drewN m) (HREP1.out.same (fun _ h => h) fun j hj => hown2.1.block j hj.2) 41 5 9 Try.underlying41 Try.underlying5 Try.underlying9
            obtain ⟨vb, vd, rfl⟩ := hown2.slice
            rw [← HL.out]
            simp only [← HL.out] at hst1 hst2
            obtain ⟨sq, hsq⟩ : ∃ sq, sq = strOf f.b := ⟨_, rfl⟩
            simp only [← hsq] at hst1 hst2
            have hcp2 : w15.cell? ⟨gp, m, none⟩ = some (.string f.nm) := (World.cell?_of_block (a := ⟨gp, m, none⟩) (HB15.out.block gp hgp)).trans HCP.out
            have hcq2 : w15.cell? ⟨gq, m, none⟩ = some (.string f.nm) := (World.cell?_of_block (a := ⟨gq, m, none⟩) (HB15.out.block gq hgq)).trans HCQ.out
            have hgp2 : gp < w15.heap.size := by omega
            have hgq2 : gq < w15.heap.size := by omega
            clear hown2 hsq hcq1 hgq1 hgp1
            go_wp2_with fail
            go_quiet (fail)
            have HBN : Hid (∀ m, Below w13.heap.size w13 (w15.drewN m)) := Lib.hid fun m => ⟨HB15.out.os, HB15.out.tape, HB15.out.output, HB15.out.size, HB15.out.block⟩
            clear hst1 hst2 hcp2 hcq2
            go_wp2_with fail
            go_roundw
            case rel => exact ⟨m + 1, by go_num, by omega, HBN.out _⟩
            case measure => simp [intOf]; omega
          · have hmm : ¬ (m : Int) < (d5.fs.length : Int) := by omega
            clear hlm
            go_wp2_with fail
            refine (DAppend HR.out.dsA nmA [] (fun _ => False) (.slice none 0 0) (by decide) (.inl ⟨rfl, Bare.nil⟩) (fun _ h => h.elim) (by rw [HSAME.out.1]; have := HU5.out; simp; omega)).mono ?_
            rintro e w15 ⟨rfl, ho15, X15, hX15, h15⟩
            rw [HSAME.out.2.2]
            have H15 : Hid (P2 w X15 Z11 ga gb _ d5 w15) := Lib.hid (HR.out.callD ho15 hX15 h15)
            clear ho15 hX15 h15
            go_wp2_with fail
            refine (DAppend H15.out.swap.dsA nmA [] (fun _ => False) (.slice none 0 0) (by decide) (.inl ⟨rfl, Bare.nil⟩) (fun _ h => h.elim) (by have := HU5.out; simp; omega)).mono ?_
            rintro e w16 ⟨rfl, -, Z16, -, h16⟩
            have H16 := Lib.hid h16
            clear h16
            go_wp2_with fail
            go_ret
            exact ⟨rfl, H16.out.below⟩
end Go.Proofs.Ytgiipkmkmomofaa.M
