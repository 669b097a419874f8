/- Package tally: the greatest indexes; what a majority has. Package tally: tracks: how far peers are; what an answer changes. Package tally: what an Ack, and a Back, makes of a peer. Package tally: Ack, Back. Package tally: Only, NewTrack. Package tally: polls. Package tally: what some say. Package tally: what a majority has. The statements' examples: awake; configurations that aren't too long. The statements' examples: awake. Peers as the document has them: a list by rising numbers; and as the program has them: which are there. -/
import Derived.Test.YtenpbcpdecnhmaaTA8
import Derived.Test.YtenpbcpdecnhmaaTA9
import Derived.StillTailTactics
import Derived.Deep.QuietTactic
import Derived.BigRegion
import Derived.Deep.RegionHeld
/- Part: TaA. -/
namespace Go.Proofs.Ytenpbcpdecnhmaa.M
open Go.RowKit Go.Sort

theorem fSort : Try.laysSort_ren.f 189 = 27 := by kernel_rfl

theorem Sort_any (base : Nat) (l : List Int) (v : Value) (w : World) (h : IR base l v w) (hl : l.length ≤ 1000000) :
    Calls Try.prog 27 #[v] w fun e w' => e = .returned (.tuple #[]) ∧ Turned base (sortN l) v v w w' := by
  rw [← fSort]
  rcases h.split with ⟨rfl, rfl⟩ | ⟨g, cap, cur, rfl, hb, hlt, hcur, h1, h2, h3, h4⟩
  · refine (Any.slices_Sort_int_none Try.laysSort none 0 w).mono ?_
    rintro e w' ⟨rfl, rfl⟩
    exact ⟨rfl, by simpa [sortN] using IR.bare base w', gb_refl _ _, .inl rfl⟩
  · refine (Any.slices_Sort_int Try.laysSort g 0 cap l w h.holds hlt (by omega)).mono ?_
    rintro e w' ⟨rfl, n, os, rfl⟩
    refine ⟨rfl, ⟨?_, fun x hx => h.rng x (sortN_mem.1 hx)⟩, grownBy_sortedI _, .inl rfl⟩
    have := ownsRow_sortedI (n := n) (os := os) (base := base) (ts := sortN l) (ss := l) (sortN_len l) hb hcur h1 (by unfold maxLen; omega) (by omega)
    rw [sortN_len]
    exact this

theorem most_any (n : Nat) (hn : n ≤ 1000000) (w : World) : Calls Try.prog 28 #[.int .i64 (n : Int)] w fun e w' => e = .returned (.int .i64 ((n / 2 + 1 : Nat) : Int)) ∧ w' = w := by
  have hq : (n : Int).tdiv 2 = ((n / 2 : Nat) : Int) := by rw [Int.tdiv_eq_ediv_of_nonneg (by omega)]; rfl
  go_enter Try.func28, Try.ntmps28
  go_wp2_with fail
  go_ret
  exact ⟨by simp, rfl⟩

set_option maxRecDepth 20000 in
set_option maxHeartbeats 1600000 in
theorem greatest_any (ms : List (Int × Int)) (F : Nat → Prop) (v : Value) (w : World) (hv : RepM w F ms v) (hF : ∀ k, F k → k < w.heap.size) (hl : ms.length ≤ 1000000) :
    Calls Try.prog 26 #[v] w fun e w' => ∃ gm, e = .returned (.map (some gm)) ∧ w.heap.size ≤ gm ∧ Below w.heap.size w w' ∧ IM w' gm ms.length (hasM ms) := by
  obtain ⟨va, vc, rfl, -⟩ := hv.slice
  obtain ⟨n, hn⟩ : ∃ n, n = ms.length := ⟨_, rfl⟩
  rw [← hn] at hl ⊢
  obtain ⟨gm, hgm⟩ : ∃ gm, gm = w.heap.size := ⟨_, rfl⟩
  have H0 : Hid (IM (w.alloc (.map #[] 0)) gm 0 (hasM (ms.take 0)) ∧ Below w.heap.size w (w.alloc (.map #[] 0))) := Lib.hid ⟨by rw [hgm]; exact IM.made w, below_alloc _ _⟩
  have hmm := @run_makeMap Try.prog
  have HV := Lib.hid hv
  have HF := Lib.hid hF
  have HN := Lib.hid hn
  have HGM := Lib.hid hgm
  clear hv hF hn
  go_enter Try.func26, Try.ntmps26
  go_wp2_with fail
  rw [← HGM.out]
  clear hgm
  go_loopw [9] (fun i wr => ∃ k : Nat, k ≤ n ∧ i = .int .i64 (k : Int) ∧ Hid (IM wr gm k (hasM (ms.take k))) ∧ Hid (Below w.heap.size w wr)) (fun i _ => n - (intOf i).toNat)
  case atStart => exact ⟨0, Nat.zero_le _, rfl, Lib.hid H0.out.1, Lib.hid H0.out.2⟩
  case round =>
    obtain ⟨k, hk, rfl, HI, HB⟩ := hrel
    by_cases hlt : k < n
    · have hkk : (k : Int) < (n : Int) := by omega
      have hlt2 : k < ms.length := by rw [← HN.out]; exact hlt
      obtain ⟨b, off, rfl, -, e0, e1, hr1, hr2⟩ := (HV.out.below HF.out HB.out).elem k hlt2
      obtain ⟨id, hid⟩ : ∃ id, id = ms[k].1 := ⟨_, rfl⟩
      obtain ⟨x, hx⟩ : ∃ x, x = ms[k].2 := ⟨_, rfl⟩
      rw [← hid] at e0 hr1
      rw [← hx] at e1 hr2
      have hI2 := HI.out.next (below_alloc wr (.cells #[.int .i64 id, .int .i64 x] 32))
      have hlk := hI2.look hr1
      have hyr := hasM_in64 (l := ms.take k) (fun p hp => HV.out.rng p (List.mem_of_mem_take hp)) id
      obtain ⟨y, hy⟩ : ∃ y, y = hasM (ms.take k) id := ⟨_, rfl⟩
      rw [← hy] at hlk hyr
      obtain ⟨w2, hst, hI3, hg, hsz⟩ := hI2.store (by omega) hr1 (v := max y x) (by omega)
      have HNX : Hid (IM w2 gm (k + 1) (hasM (ms.take (k + 1))) ∧ Below w.heap.size w w2) := Lib.hid ⟨by
        have e : (fun j => if j = id then max y x else hasM (ms.take k) j) = hasM (ms.take (k + 1)) := by
          funext j
          rw [hasM_take hlt2]
          by_cases e : j = id
          · rw [if_pos e, e, hid, hasStep_max, hy, hid, hx]
          · rw [if_neg e, hasStep_other (by rw [← hid]; exact e)]
        rw [← e]; exact hI3, (HB.out.trans ((below_alloc _ _).mono HB.out.size)).grown hg (by have := HB.out.size; simp; omega) (fun j hj => by cases hj; exact Nat.le_of_eq HGM.out.symm)⟩
      clear hI2 hI3 hg hsz hid hx hy
      go_wp2_with fail
      go_roundw
      case rel => exact ⟨k + 1, by omega, by go_num, Lib.hid HNX.out.1, Lib.hid HNX.out.2⟩
      case measure => simp only [intOf]; omega
    · obtain rfl : k = n := by omega
      have hkk : ¬ ((k : Nat) : Int) < (k : Int) := by omega
      have HD : Hid (IM wr gm k (hasM ms)) := Lib.hid (by have := HI.out; rw [HN.out, List.take_length] at this; rw [HN.out]; exact this)
      clear HI
      go_wp2_with fail
      go_ret
      exact ⟨gm, rfl, by have := HGM.out; omega, HB.out, HD.out⟩
end Go.Proofs.Ytenpbcpdecnhmaa.M

/- Part: TaG. -/
namespace Go.Proofs.Ytenpbcpdecnhmaa.M
open Go.RowKit Go.Maps

/-- A track in memory. -/
structure TrackAt (w : World) (gt gm n : Nat) (f : Int → Option (Int × Int)) : Prop where
  box : w.heap[gt]? = some (.cells #[.map (some gm)] 69)
  map : PMat w gm n f

section
variable {w w' : World} {gt gm n : Nat} {f : Int → Option (Int × Int)}

theorem TrackAt.ne (h : TrackAt w gt gm n f) : gm ≠ gt := fun e => by
  obtain ⟨es, c, hb⟩ := h.map.isMap
  have := h.box
  rw [← e, hb] at this
  cases this

theorem TrackAt.lt (h : TrackAt w gt gm n f) : gt < w.heap.size ∧ gm < w.heap.size := ⟨lt_of_heap h.box, h.map.lt⟩

theorem TrackAt.same (h : TrackAt w gt gm n f) (h1 : w'.heap[gt]? = w.heap[gt]?) (h2 : w'.heap[gm]? = w.heap[gm]?) : TrackAt w' gt gm n f := ⟨h1.trans h.box, h.map.same h2⟩

theorem TrackAt.next (h : TrackAt w gt gm n f) (hb : Below w.heap.size w w') : TrackAt w' gt gm n f := h.same (hb.block _ h.lt.1) (hb.block _ h.lt.2)
end

theorem trk1 {w : World} {g : Nat} {x : Value} {t : TypeId} (h : w.heap[g]? = some (.cells #[x] t)) : w.cell? ⟨g, 0, none⟩ = some x ∧ w.frozen? ⟨g, 0, none⟩ = false ∧ g < w.heap.size :=
  ⟨cell_of_row w g 0 _ t _ h, frozen_of_row w g 0 _ t h, lt_of_heap h⟩

def belowOf (f : Int → Option (Int × Int)) (q : Int) : Int := (peerOf f q).2
def matchOf (f : Int → Option (Int × Int)) (q : Int) : Int := (peerOf f q).1

theorem field_peer (m b : Int) (w : World) : (Instr.field 71 (.agg #[.int .i64 m, .int .i64 b]) 0).run Try.prog w = .ok (.int .i64 m) w := by kernel_rfl

set_option maxRecDepth 20000 in
/-- What Match answers. -/
theorem match_any (gt gm n : Nat) (f : Int → Option (Int × Int)) (q : Int) (hq : -9223372036854775808 ≤ q ∧ q ≤ 9223372036854775807) (w : World) (h : TrackAt w gt gm n f) :
    Calls Try.prog 23 #[.pointer (some ⟨gt, 0, none⟩), .int .i64 q] w fun e w' => e = .returned (.int .i64 (matchOf f q)) ∧ w' = w := by
  have hl := (h.map.look hq).1
  unfold peerV at hl
  obtain ⟨m, hm⟩ : ∃ m, m = (peerOf f q).1 := ⟨_, rfl⟩
  obtain ⟨b, hb⟩ : ∃ b, b = (peerOf f q).2 := ⟨_, rfl⟩
  rw [← hm, ← hb] at hl
  have HM : Hid (m = matchOf f q) := Lib.hid hm
  have hfi : ∀ w : World, (Instr.field 71 (.agg #[.int .i64 m, .int .i64 b]) 0).run Try.prog w = .ok (.int .i64 m) w := fun w => field_peer m b w
  obtain ⟨c0, -, cz⟩ := trk1 h.box
  clear h hm hb
  go_enter Try.func23, Try.ntmps23
  go_wp2_with fail
  go_ret
  exact ⟨by rw [HM.out]; rfl, rfl⟩

/-- What Next answers. -/
def nextOf (f : Int → Option (Int × Int)) (q : Int) : Int := match f q with | some p => p.2 + 1 | none => 0

set_option maxRecDepth 20000 in
theorem next_any (gt gm n : Nat) (f : Int → Option (Int × Int)) (q : Int) (hq : -9223372036854775808 ≤ q ∧ q ≤ 9223372036854775807) (w : World) (h : TrackAt w gt gm n f) (hb : ∀ p, f q = some p → 0 ≤ p.2 ∧ p.2 ≤ 4611686018427387904) :
    Calls Try.prog 25 #[.pointer (some ⟨gt, 0, none⟩), .int .i64 q] w fun e w' => e = .returned (.int .i64 (nextOf f q)) ∧ Below w.heap.size w w' := by
  have hl := (h.map.look hq).2
  unfold peerV peerOf at hl
  obtain ⟨c0, -, cz⟩ := trk1 h.box
  cases hf : f q with
  | none =>
    rw [hf] at hl
    have HE : Hid (nextOf f q = 0) := Lib.hid (by unfold nextOf; rw [hf])
    simp only [Option.getD_none, Option.isSome_none] at hl
    clear h hf hb
    go_enter Try.func25, Try.ntmps25
    go_wp2_with fail
    go_ret
    exact ⟨by rw [HE.out]; rfl, below_alloc _ _⟩
  | some p =>
    obtain ⟨m, b⟩ := p
    rw [hf] at hl
    have hbb := hb _ hf
    simp only at hbb
    have HE : Hid (nextOf f q = b + 1) := Lib.hid (by unfold nextOf; rw [hf])
    simp only [Option.getD_some, Option.isSome_some] at hl
    clear h hf hb
    go_enter Try.func25, Try.ntmps25
    go_wp2_with fail
    go_ret
    exact ⟨by rw [HE.out]; rfl, below_alloc _ _⟩
end Go.Proofs.Ytenpbcpdecnhmaa.M

/- Part: TaH. -/
namespace Go.Proofs.Ytenpbcpdecnhmaa.M
open Go.RowKit Go.Maps

def ackP (index : Int) (p : Int × Int) : Option (Int × Int) := if index ≤ p.1 then none else some (index, max p.2 index)
def backP (index hint : Int) (p : Int × Int) : Option (Int × Int) := if index ≠ p.2 ∨ index ≤ p.1 then none else some (p.1, max (min (index - 1) hint) p.1)

/-- What such a closure leaves of a peer's box. -/
def PeerPost (g : Int × Int → Option (Int × Int)) (gb : Nat) (p : Int × Int) (w : World) (e : Ending) (w' : World) : Prop :=
  (g p = none ∧ e = .returned (.bool false) ∧ Below w.heap.size w w') ∨
  ∃ q, g p = some q ∧ e = .returned (.bool true) ∧ Only (fun j => j = gb) w w' ∧ w'.heap[gb]? = some (.cells #[.int .i64 q.1, .int .i64 q.2] 71)

def In1 (x : Int) : Prop := -9223372036854775808 ≤ x ∧ x ≤ 9223372036854775807

set_option maxRecDepth 20000 in
set_option maxHeartbeats 1600000 in
theorem ack1_any (gb gx : Nat) (m b index : Int) (w : World) (hb : w.heap[gb]? = some (.cells #[.int .i64 m, .int .i64 b] 71)) (hx : w.heap[gx]? = some (.cells #[.int .i64 index] 3)) :
    Calls Try.prog 31 #[.pointer (some ⟨gb, 0, none⟩), .pointer (some ⟨gx, 0, none⟩)] w (PeerPost (ackP index) gb (m, b) w) := by
  obtain ⟨c0, c1, fz0, fz1, cz⟩ := block2' hb
  obtain ⟨x0, -, xz⟩ := trk1 hx
  have hne : gx ≠ gb := fun e => by rw [e, hb] at hx; simp at hx
  have HB := Lib.hid hb
  clear hb hx
  by_cases h1 : index ≤ m
  · have q1 : decide (index ≤ m) = true := decide_eq_true h1
    have HP : Hid (ackP index (m, b) = none) := Lib.hid (by unfold ackP; rw [if_pos h1])
    clear h1
    go_enter Try.func31, Try.ntmps31
    go_wp2_with fail
    go_quiet (fail)
    go_wp2_with fail
    go_ret
    exact .inl ⟨HP.out, rfl, below_drewN _ _⟩
  · have q1 : decide (index ≤ m) = false := decide_eq_false h1
    have HP : Hid (ackP index (m, b) = some (index, max b index)) := Lib.hid (by unfold ackP; rw [if_neg h1])
    clear h1
    go_enter Try.func31, Try.ntmps31
    go_wp2_with fail
    go_quiet (fail)
    obtain ⟨W1, hW1⟩ : ∃ W1, W1 = w.drewN nq := ⟨_, rfl⟩
    have HW1 : Hid (Below w.heap.size w W1 ∧ W1.heap = w.heap) := Lib.hid (by rw [hW1]; exact ⟨below_drewN _ _, rfl⟩)
    rw [← hW1]
    obtain ⟨c0, c1, fz0, fz1, cz⟩ := block2' (w := W1) (by rw [HW1.out.2]; exact HB.out)
    have x0 : W1.cell? ⟨gx, 0, none⟩ = some (.int .i64 index) := (World.cell?_of_block (a := ⟨gx, 0, none⟩) (by rw [HW1.out.2])).trans x0
    have xz : gx < W1.heap.size := by rw [HW1.out.2]; exact xz
    clear hW1
    go_wp2_with fail
    go_region
    go_wp2_with fail
    go_ret
    refine .inr ⟨(index, max b index), HP.out, rfl, ?_, ?_⟩
    · exact Only.then (Only.of_below HW1.out.1) (((Only.refl (fun j => j = gb) W1).set (.inl rfl) _).set (.inl rfl) _).drawn
    · exact heap_set22 (w := W1) (by rw [HW1.out.2]; exact HB.out)

set_option maxRecDepth 20000 in
set_option maxHeartbeats 1600000 in
theorem back1_any (gb gx gh : Nat) (m b index hint : Int) (w : World) (hi : index = b → 0 ≤ index) (hb : w.heap[gb]? = some (.cells #[.int .i64 m, .int .i64 b] 71)) (hx : w.heap[gx]? = some (.cells #[.int .i64 index] 3)) (hh : w.heap[gh]? = some (.cells #[.int .i64 hint] 3)) (hi2 : In1 index) :
    Calls Try.prog 32 #[.pointer (some ⟨gb, 0, none⟩), .pointer (some ⟨gx, 0, none⟩), .pointer (some ⟨gh, 0, none⟩)] w (PeerPost (backP index hint) gb (m, b) w) := by
  obtain ⟨c0, c1, fz0, fz1, cz⟩ := block2' hb
  obtain ⟨x0, -, xz⟩ := trk1 hx
  obtain ⟨y0, -, yz⟩ := trk1 hh
  have hne : gx ≠ gb := fun e => by rw [e, hb] at hx; simp at hx
  have hne2 : gh ≠ gb := fun e => by rw [e, hb] at hh; simp at hh
  have HB := Lib.hid hb
  unfold In1 at hi2
  clear hb hx hh
  by_cases h0 : index = b
  · have q0 : (index != b) = false := by simpa using h0
    have hi3 := hi h0
    clear hi
    by_cases h1 : index ≤ m
    · have q1 : decide (index ≤ m) = true := decide_eq_true h1
      have HP : Hid (backP index hint (m, b) = none) := Lib.hid (by unfold backP; rw [if_pos (.inr h1)])
      clear h1 h0
      go_enter Try.func32, Try.ntmps32
      go_wp2_with fail
      go_quiet (fail)
      go_wp2_with fail
      go_ret
      exact .inl ⟨HP.out, rfl, below_drewN _ _⟩
    · have q1 : decide (index ≤ m) = false := decide_eq_false h1
      have HP : Hid (backP index hint (m, b) = some (m, max (min (index - 1) hint) m)) := Lib.hid (by unfold backP; rw [if_neg (by intro h; rcases h with h | h; exact h h0; exact h1 h)])
      clear h1 h0
      go_enter Try.func32, Try.ntmps32
      go_wp2_with fail
      go_quiet (fail)
      obtain ⟨W1, hW1⟩ : ∃ W1, W1 = w.drewN nq := ⟨_, rfl⟩
      have HW1 : Hid (Below w.heap.size w W1 ∧ W1.heap = w.heap) := Lib.hid (by rw [hW1]; exact ⟨below_drewN _ _, rfl⟩)
      rw [← hW1]
      obtain ⟨c0, c1, fz0, fz1, cz⟩ := block2' (w := W1) (by rw [HW1.out.2]; exact HB.out)
      have x0 : W1.cell? ⟨gx, 0, none⟩ = some (.int .i64 index) := (World.cell?_of_block (a := ⟨gx, 0, none⟩) (by rw [HW1.out.2])).trans x0
      have xz : gx < W1.heap.size := by rw [HW1.out.2]; exact xz
      have y0 : W1.cell? ⟨gh, 0, none⟩ = some (.int .i64 hint) := (World.cell?_of_block (a := ⟨gh, 0, none⟩) (by rw [HW1.out.2])).trans y0
      have yz : gh < W1.heap.size := by rw [HW1.out.2]; exact yz
      clear hW1
      go_wp2_with fail
      go_region
      go_wp2_with fail
      go_ret
      refine .inr ⟨(m, max (min (index - 1) hint) m), HP.out, rfl, ?_, ?_⟩
      · exact Only.then (Only.of_below HW1.out.1) ((Only.refl (fun j => j = gb) W1).set (.inl rfl) _).drawn
      · exact (heap_set2 (w := W1) (by rw [HW1.out.2]; exact HB.out)).2
  · have q0 : (index != b) = true := by simpa using h0
    have HP : Hid (backP index hint (m, b) = none) := Lib.hid (by unfold backP; rw [if_pos (.inl h0)])
    clear h0
    go_enter Try.func32, Try.ntmps32
    go_wp2_with fail
    go_quiet (fail)
    go_wp2_with fail
    go_ret
    exact .inl ⟨HP.out, rfl, below_drewN _ _⟩
end Go.Proofs.Ytenpbcpdecnhmaa.M

/- Part: TaI. -/
namespace Go.Proofs.Ytenpbcpdecnhmaa.M
open Go.RowKit Go.Maps

/-- How far peers are, one of them changed. -/
def updP (f : Int → Option (Int × Int)) (id : Int) (p : Int × Int) : Int → Option (Int × Int) := fun k => if k = id then some p else f k

/-- What a call of change does: did it change one, and how far they are then. -/
def chg (g : Int × Int → Option (Int × Int)) (f : Int → Option (Int × Int)) (id : Int) : Bool × (Int → Option (Int × Int)) :=
  match f id with
  | none => (false, f)
  | some p => match g p with
    | none => (false, f)
    | some q => (true, updP f id q)

/-- What is left behind it. -/
def ChgPost (gt gm n : Nat) (r : Bool × (Int → Option (Int × Int))) (w : World) (e : Ending) (w' : World) : Prop :=
  e = .returned (.bool r.1) ∧ Only (fun j => j = gm) w w' ∧ TrackAt w' gt gm (n + 1) r.2

theorem TrackAt.keepN {w : World} {gt gm n m : Nat} {f : Int → Option (Int × Int)} (h : TrackAt w gt gm n f) (hm : n ≤ m) : TrackAt w gt gm m f := ⟨h.box, h.map.keepN hm⟩

theorem PMat.stored {w : World} {gt gm n : Nat} {f : Int → Option (Int × Int)} (h : TrackAt w gt gm n f) (hn : n ≤ 1000000) {id : Int} (hid : In1 id) (p : Int × Int) :
    ∃ w', (Instr.mapUpdate 67 (.map (some gm)) (.int .i64 id) (.agg #[.int .i64 p.1, .int .i64 p.2])).run Try.prog w = .ok () w' ∧ Only (fun j => j = gm) w w' ∧ TrackAt w' gt gm (n + 1) (updP f id p) := by
  obtain ⟨w', h1, h2, h3, h4⟩ := h.map.store hn hid p
  refine ⟨w', h1, only_of_grown h3 fun k hk => by cases hk; rfl, ⟨?_, h2⟩⟩
  exact (h3.block gt h.lt.1 fun e => h.ne (Option.some.inj e).symm).trans h.box


set_option maxRecDepth 20000 in
set_option maxHeartbeats 3200000 in
theorem change_ack (g : Int × Int → Option (Int × Int)) (gx : Nat) (gt gm n : Nat) (f : Int → Option (Int × Int)) (id : Int) (hid : In1 id) (w : World) (h : TrackAt w gt gm n f) (hn : n ≤ 1000000)
    (hdo : ∀ (w1 : World) (gb : Nat) (p : Int × Int), f id = some p → Below w.heap.size w w1 → w.heap.size ≤ gb → w1.heap[gb]? = some (.cells #[.int .i64 p.1, .int .i64 p.2] 71) → Calls Try.prog 31 #[.pointer (some ⟨gb, 0, none⟩), .pointer (some ⟨gx, 0, none⟩)] w1 (PeerPost g gb p w1)) :
    Calls Try.prog 30 #[.pointer (some ⟨gt, 0, none⟩), .int .i64 id, .func (.func 31) #[] #[.pointer (some ⟨gx, 0, none⟩)]] w (ChgPost gt gm n (chg g f id) w) := by
  have hl := (h.map.look hid).2
  unfold peerV peerOf at hl
  obtain ⟨c0, -, cz⟩ := trk1 h.box
  have H := Lib.hid h
  have HID := Lib.hid hid
  have HDO := Lib.hid hdo
  cases hf : f id with
  | none =>
    rw [hf] at hl
    have HR : Hid (chg g f id = (false, f)) := Lib.hid (by unfold chg; rw [hf])
    simp only [Option.getD_none, Option.isSome_none] at hl
    clear h hf hdo hid
    go_enter Try.func30, Try.ntmps30
    go_wp2_with fail
    go_ret
    rw [HR.out]
    exact ⟨rfl, Only.of_below (below_alloc _ _), (H.out.next (below_alloc _ _)).keepN (by omega)⟩
  | some p =>
    obtain ⟨m, b⟩ := p
    rw [hf] at hl
    have HR : Hid (chg g f id = match g (m, b) with | none => (false, f) | some q => (true, updP f id q)) := Lib.hid (by unfold chg; rw [hf])
    simp only [Option.getD_some, Option.isSome_some] at hl
    obtain ⟨gb, hgb⟩ : ∃ gb, gb = w.heap.size := ⟨_, rfl⟩
    obtain ⟨W, hW⟩ : ∃ W, W = w.alloc (.cells #[.int .i64 m, .int .i64 b] 71) := ⟨_, rfl⟩
    have HB : Hid (Below w.heap.size w W) := Lib.hid (by rw [hW]; exact below_alloc _ _)
    have HBX : Hid (W.heap[gb]? = some (.cells #[.int .i64 m, .int .i64 b] 71)) := Lib.hid (by rw [hW]; exact heap_new _ _ _ hgb)
    have HC := Lib.hid (HDO.out W gb (m, b) hf HB.out (by omega) HBX.out)
    have HW : Hid (W = w.alloc (.cells #[.int .i64 m, .int .i64 b] 71)) := Lib.hid hW
    have HGB : Hid (gb = w.heap.size) := Lib.hid hgb
    clear h hf hdo hid hW hgb
    go_enter Try.func30, Try.ntmps30
    go_wp2_with fail
    rw [← HGB.out, ← HW.out]
    refine HC.out.mono ?_
    rintro e w2 (⟨hg, rfl, hb2⟩ | ⟨q, hg, rfl, ho2, hx2⟩)
    · have HR2 : Hid (chg g f id = (false, f)) := Lib.hid (by rw [HR.out, hg])
      have HB2 : Hid (Below w.heap.size w w2) := Lib.hid (HB.out.trans (hb2.mono HB.out.size))
      clear hg hb2
      go_wp2_with fail
      go_ret
      rw [HR2.out]
      exact ⟨rfl, Only.of_below HB2.out, (H.out.next HB2.out).keepN (by omega)⟩
    · have HR2 : Hid (chg g f id = (true, updP f id q)) := Lib.hid (by rw [HR.out, hg])
      obtain ⟨qm, qb⟩ := q
      have HB2 : Hid (Below w.heap.size w w2) := Lib.hid (below_only HB.out ho2 fun k hk => by rw [hk, HGB.out]; exact Nat.le_refl _)
      have ht := H.out.next HB2.out
      obtain ⟨d0, -, dz⟩ := trk1 ht.box
      obtain ⟨e0, e1, -, -, ez⟩ := block2' hx2
      obtain ⟨w3, hst, ho3, ht3⟩ := PMat.stored (ht.same (w' := w2.drew) rfl rfl) hn HID.out (qm, qb)
      simp only at hst
      have HO3 : Hid (Only (fun j => j = gm) w w3 ∧ TrackAt w3 gt gm (n + 1) (updP f id (qm, qb))) := Lib.hid ⟨Only.then (Only.of_below HB2.out) (Only.then (Only.refl (fun j => j = gm) w2).drawn ho3), ht3⟩
      clear hg ho2 hx2 ht ho3 ht3 c0 cz
      go_wp2_with fail
      go_still_tail 6, (by kernel_rfl)
      go_wp2_with fail
      go_ret
      rw [HR2.out]
      exact ⟨rfl, HO3.out.1, HO3.out.2⟩

set_option maxRecDepth 20000 in
set_option maxHeartbeats 3200000 in
theorem change_back (g : Int × Int → Option (Int × Int)) (gx gh : Nat) (gt gm n : Nat) (f : Int → Option (Int × Int)) (id : Int) (hid : In1 id) (w : World) (h : TrackAt w gt gm n f) (hn : n ≤ 1000000)
    (hdo : ∀ (w1 : World) (gb : Nat) (p : Int × Int), f id = some p → Below w.heap.size w w1 → w.heap.size ≤ gb → w1.heap[gb]? = some (.cells #[.int .i64 p.1, .int .i64 p.2] 71) → Calls Try.prog 32 #[.pointer (some ⟨gb, 0, none⟩), .pointer (some ⟨gx, 0, none⟩), .pointer (some ⟨gh, 0, none⟩)] w1 (PeerPost g gb p w1)) :
    Calls Try.prog 30 #[.pointer (some ⟨gt, 0, none⟩), .int .i64 id, .func (.func 32) #[] #[.pointer (some ⟨gx, 0, none⟩), .pointer (some ⟨gh, 0, none⟩)]] w (ChgPost gt gm n (chg g f id) w) := by
  have hl := (h.map.look hid).2
  unfold peerV peerOf at hl
  obtain ⟨c0, -, cz⟩ := trk1 h.box
  have H := Lib.hid h
  have HID := Lib.hid hid
  have HDO := Lib.hid hdo
  cases hf : f id with
  | none =>
    rw [hf] at hl
    have HR : Hid (chg g f id = (false, f)) := Lib.hid (by unfold chg; rw [hf])
    simp only [Option.getD_none, Option.isSome_none] at hl
    clear h hf hdo hid
    go_enter Try.func30, Try.ntmps30
    go_wp2_with fail
    go_ret
    rw [HR.out]
    exact ⟨rfl, Only.of_below (below_alloc _ _), (H.out.next (below_alloc _ _)).keepN (by omega)⟩
  | some p =>
    obtain ⟨m, b⟩ := p
    rw [hf] at hl
    have HR : Hid (chg g f id = match g (m, b) with | none => (false, f) | some q => (true, updP f id q)) := Lib.hid (by unfold chg; rw [hf])
    simp only [Option.getD_some, Option.isSome_some] at hl
    obtain ⟨gb, hgb⟩ : ∃ gb, gb = w.heap.size := ⟨_, rfl⟩
    obtain ⟨W, hW⟩ : ∃ W, W = w.alloc (.cells #[.int .i64 m, .int .i64 b] 71) := ⟨_, rfl⟩
    have HB : Hid (Below w.heap.size w W) := Lib.hid (by rw [hW]; exact below_alloc _ _)
    have HBX : Hid (W.heap[gb]? = some (.cells #[.int .i64 m, .int .i64 b] 71)) := Lib.hid (by rw [hW]; exact heap_new _ _ _ hgb)
    have HC := Lib.hid (HDO.out W gb (m, b) hf HB.out (by omega) HBX.out)
    have HW : Hid (W = w.alloc (.cells #[.int .i64 m, .int .i64 b] 71)) := Lib.hid hW
    have HGB : Hid (gb = w.heap.size) := Lib.hid hgb
    clear h hf hdo hid hW hgb
    go_enter Try.func30, Try.ntmps30
    go_wp2_with fail
    rw [← HGB.out, ← HW.out]
    refine HC.out.mono ?_
    rintro e w2 (⟨hg, rfl, hb2⟩ | ⟨q, hg, rfl, ho2, hx2⟩)
    · have HR2 : Hid (chg g f id = (false, f)) := Lib.hid (by rw [HR.out, hg])
      have HB2 : Hid (Below w.heap.size w w2) := Lib.hid (HB.out.trans (hb2.mono HB.out.size))
      clear hg hb2
      go_wp2_with fail
      go_ret
      rw [HR2.out]
      exact ⟨rfl, Only.of_below HB2.out, (H.out.next HB2.out).keepN (by omega)⟩
    · have HR2 : Hid (chg g f id = (true, updP f id q)) := Lib.hid (by rw [HR.out, hg])
      obtain ⟨qm, qb⟩ := q
      have HB2 : Hid (Below w.heap.size w w2) := Lib.hid (below_only HB.out ho2 fun k hk => by rw [hk, HGB.out]; exact Nat.le_refl _)
      have ht := H.out.next HB2.out
      obtain ⟨d0, -, dz⟩ := trk1 ht.box
      obtain ⟨e0, e1, -, -, ez⟩ := block2' hx2
      obtain ⟨w3, hst, ho3, ht3⟩ := PMat.stored (ht.same (w' := w2.drew) rfl rfl) hn HID.out (qm, qb)
      simp only at hst
      have HO3 : Hid (Only (fun j => j = gm) w w3 ∧ TrackAt w3 gt gm (n + 1) (updP f id (qm, qb))) := Lib.hid ⟨Only.then (Only.of_below HB2.out) (Only.then (Only.refl (fun j => j = gm) w2).drawn ho3), ht3⟩
      clear hg ho2 hx2 ht ho3 ht3 c0 cz
      go_wp2_with fail
      go_still_tail 6, (by kernel_rfl)
      go_wp2_with fail
      go_ret
      rw [HR2.out]
      exact ⟨rfl, HO3.out.1, HO3.out.2⟩

theorem ChgPost.from {gt gm n : Nat} {r : Bool × (Int → Option (Int × Int))} {w w1 w' : World} {e : Ending} (hb : Below w.heap.size w w1) (h : ChgPost gt gm n r w1 e w') : ChgPost gt gm n r w e w' :=
  ⟨h.1, Only.then (Only.of_below hb) h.2.1, h.2.2⟩

set_option maxRecDepth 20000 in
theorem Ack_any (gt gm n : Nat) (f : Int → Option (Int × Int)) (id index : Int) (hid : In1 id) (w : World) (h : TrackAt w gt gm n f) (hn : n ≤ 1000000) :
    Calls Try.prog 20 #[.pointer (some ⟨gt, 0, none⟩), .int .i64 id, .int .i64 index] w (ChgPost gt gm n (chg (ackP index) f id) w) := by
  obtain ⟨gx, hgx⟩ : ∃ gx, gx = w.heap.size := ⟨_, rfl⟩
  obtain ⟨W, hW⟩ : ∃ W, W = w.alloc (.cells #[.int .i64 index] 3) := ⟨_, rfl⟩
  have hx : W.heap[gx]? = some (.cells #[.int .i64 index] 3) := by rw [hW]; exact heap_new _ _ _ hgx
  have hb : Below w.heap.size w W := by rw [hW]; exact below_alloc _ _
  have HB := Lib.hid hb
  have HC := Lib.hid (change_ack (ackP index) gx gt gm n f id hid W (h.next hb) hn fun w1 gb p hfp hb1 hgb hp => ack1_any gb gx p.1 p.2 index w1 hp (old_below hx hb1))
  have HW : Hid (W = w.alloc (.cells #[.int .i64 index] 3)) := Lib.hid hW
  have HGX : Hid (gx = w.heap.size) := Lib.hid hgx
  have hmf : ∀ (fn : Fn) (first cap : Array Value) (w : World), (Instr.makeFunc fn first cap).run Try.prog w = .ok (.func fn first cap) w := fun _ _ _ _ => rfl
  obtain ⟨y, hy⟩ : ∃ y, y = chg (ackP index) f id := ⟨_, rfl⟩
  rw [← hy] at HC ⊢
  clear hW hgx hx hb hid h hy
  go_enter Try.func20, Try.ntmps20
  go_wp2_with fail
  rw [← HGX.out, ← HW.out]
  refine HC.out.mono ?_
  rintro e w2 ⟨rfl, h2, h3⟩
  have HP : Hid (Only (fun j => j = gm) w w2 ∧ TrackAt w2 gt gm (n + 1) y.2) := Lib.hid ⟨Only.then (Only.of_below HB.out) h2, h3⟩
  clear h2 h3
  go_wp2_with fail
  go_ret
  exact ⟨rfl, HP.out⟩

set_option maxRecDepth 20000 in
theorem Back_any (gt gm n : Nat) (f : Int → Option (Int × Int)) (id index hint : Int) (hid : In1 id) (hi : In1 index) (hi2 : ∀ p, f id = some p → 0 ≤ p.2) (w : World) (h : TrackAt w gt gm n f) (hn : n ≤ 1000000) :
    Calls Try.prog 21 #[.pointer (some ⟨gt, 0, none⟩), .int .i64 id, .int .i64 index, .int .i64 hint] w (ChgPost gt gm n (chg (backP index hint) f id) w) := by
  obtain ⟨gx, hgx⟩ : ∃ gx, gx = w.heap.size := ⟨_, rfl⟩
  obtain ⟨gh, hgh⟩ : ∃ gh, gh = w.heap.size + 1 := ⟨_, rfl⟩
  obtain ⟨W, hW⟩ : ∃ W, W = (w.alloc (.cells #[.int .i64 index] 3)).alloc (.cells #[.int .i64 hint] 3) := ⟨_, rfl⟩
  have hx : W.heap[gx]? = some (.cells #[.int .i64 index] 3) := by rw [hW]; exact old_alloc (heap_new _ _ _ hgx)
  have hh : W.heap[gh]? = some (.cells #[.int .i64 hint] 3) := by rw [hW]; exact heap_new _ _ _ (by rw [hgh]; simp)
  have hb : Below w.heap.size w W := by rw [hW]; exact (below_alloc _ _).alloc (by simp) _
  have HB := Lib.hid hb
  have HC := Lib.hid (change_back (backP index hint) gx gh gt gm n f id hid W (h.next hb) hn fun w1 gb p hfp hb1 hgb hp => back1_any gb gx gh p.1 p.2 index hint w1 (fun e => by rw [e]; exact hi2 p hfp) hp (old_below hx hb1) (old_below hh hb1) hi)
  have HW : Hid (W = (w.alloc (.cells #[.int .i64 index] 3)).alloc (.cells #[.int .i64 hint] 3)) := Lib.hid hW
  have HGX : Hid (gx = w.heap.size) := Lib.hid hgx
  have HGH : Hid (gh = gx + 1) := Lib.hid (by omega)
  have hmf : ∀ (fn : Fn) (first cap : Array Value) (w : World), (Instr.makeFunc fn first cap).run Try.prog w = .ok (.func fn first cap) w := fun _ _ _ _ => rfl
  obtain ⟨y, hy⟩ : ∃ y, y = chg (backP index hint) f id := ⟨_, rfl⟩
  rw [← hy] at HC ⊢
  clear hW hgx hgh hx hh hb hid h hy hi hi2
  go_enter Try.func21, Try.ntmps21
  go_wp2_with fail
  rw [← HW.out, ← HGX.out, ← HGH.out]
  refine HC.out.mono ?_
  rintro e w2 ⟨rfl, h2, h3⟩
  have HP : Hid (Only (fun j => j = gm) w w2 ∧ TrackAt w2 gt gm (n + 1) y.2) := Lib.hid ⟨Only.then (Only.of_below HB.out) h2, h3⟩
  clear h2 h3
  go_wp2_with fail
  go_ret
  exact ⟨rfl, HP.out⟩
end Go.Proofs.Ytenpbcpdecnhmaa.M

/- Part: TaJ. -/
namespace Go.Proofs.Ytenpbcpdecnhmaa.M
open Go.RowKit Go.Maps

theorem wpList_peer_store {w : World} {ops : Array Oper} {rest : List Oper} {o : Oper} {a : Act} {Q : Exit → Act → World → Prop} (hgd : o.guard = none) (m x v : Operand) (hop : o.op = Op.mapUpdate 67 m x v)
    {gm n : Nat} {f : Int → Option (Int × Int)} {id : Int} {p : Int × Int} (hm : a.eval m = .map (some gm)) (hx : a.eval x = .int .i64 id) (hv : a.eval v = .agg #[.int .i64 p.1, .int .i64 p.2]) (hown : PMat w gm n f) (hn : n ≤ 1000000) (hid : In1 id)
    (h : ∀ w', PMat w' gm (n + 1) (updP f id p) → w.grownBy w' (some gm) → wpList Try.prog ops Q rest (a.put o.dst undef) w') : wpList Try.prog ops Q (o :: rest) a w := by
  refine wpList_plain hgd fun K' hK' => ?_
  obtain ⟨w', hrun, h1, h2, -⟩ := hown.store hn hid p
  unfold peerV at hrun
  unfold Oper.wp
  simp [execOp, hop, hm, hx, hv, hrun, Result.andThen]
  exact hK' _ _ (h w' h1 h2)

/-- What Only leaves: these, as they were, or as they come. -/
def onlyP (f : Int → Option (Int × Int)) (last : Int) (ids : List Int) : Int → Option (Int × Int) := fun j => if j ∈ ids then some ((f j).getD (0, max last 0)) else none

def OnlyPost (gt n : Nat) (f : Int → Option (Int × Int)) (w : World) (e : Ending) (w' : World) : Prop :=
  e = .returned (.tuple #[]) ∧ Only (fun j => j = gt) w w' ∧ ∃ gs, w.heap.size ≤ gs ∧ TrackAt w' gt gs n f

theorem onlyP_take (f : Int → Option (Int × Int)) (last : Int) {ids : List Int} {k : Nat} (hk : k < ids.length) : onlyP f last (ids.take (k + 1)) = updP (onlyP f last (ids.take k)) ids[k] ((f ids[k]).getD (0, max last 0)) := by
  funext j
  unfold onlyP updP
  have hm : j ∈ ids.take (k + 1) ↔ j = ids[k] ∨ j ∈ ids.take k := by rw [take_snocI hk, List.mem_append, List.mem_singleton]; exact ⟨fun h => h.symm, fun h => h.symm⟩
  by_cases e : j = ids[k]
  · subst e
    rw [if_pos (hm.2 (.inl rfl)), if_pos rfl]
  · rw [if_neg e]
    by_cases h2 : j ∈ ids.take k
    · show _ = if j ∈ ids.take k then _ else _
      rw [if_pos h2, if_pos (hm.2 (.inr h2))]
    · show _ = if j ∈ ids.take k then _ else _
      rw [if_neg h2, if_neg fun h => (hm.1 h).elim e h2]

theorem heap_set1 {w : World} {g : Nat} {x v : Value} {t : TypeId} (h : w.heap[g]? = some (.cells #[x] t)) : (w.setCell ⟨g, 0, none⟩ v).heap[g]? = some (.cells #[v] t) := by
  simp [World.setCell, Array.getElem?_modify, h]

set_option maxRecDepth 20000 in
set_option maxHeartbeats 3200000 in
theorem Only_any (gt n0 : Nat) (mv : Value) (f : Int → Option (Int × Int)) (last : Int) (ids : List Int) (F : Nat → Prop) (v : Value) (w : World) (hbox : w.heap[gt]? = some (.cells #[mv] 69)) (hpm : PM w mv n0 f) (hv : RepI w F ids v) (hF : ∀ k, F k → k < w.heap.size) (hs : ids.length ≤ 1000000) :
    Calls Try.prog 19 #[.pointer (some ⟨gt, 0, none⟩), .int .i64 last, v] w (OnlyPost gt ids.length (onlyP f last ids) w) := by
  obtain ⟨a, cp, rfl, -⟩ := hv.slice
  obtain ⟨n, hn⟩ : ∃ n, n = ids.length := ⟨_, rfl⟩
  rw [← hn] at hv hs ⊢
  obtain ⟨gs, hgs⟩ : ∃ gs, gs = w.heap.size := ⟨_, rfl⟩
  have H0 : Hid (PMat (w.alloc (.map #[] 0)) gs 0 (onlyP f last (ids.take 0)) ∧ Below w.heap.size w (w.alloc (.map #[] 0))) := Lib.hid ⟨by
    have e : onlyP f last (ids.take 0) = fun _ => none := by funext j; simp [onlyP]
    rw [e, hgs]; exact PMat.made w, below_alloc _ _⟩
  have hmm := @run_makeMap Try.prog
  have HV := Lib.hid hv
  have HF := Lib.hid hF
  have HN := Lib.hid hn
  have HGS := Lib.hid hgs
  have HPM : Hid (∀ w', Below w.heap.size w w' → PM w' mv n0 f) := Lib.hid fun w' hb => hpm.same fun k hk => hb.block k (by
    rcases hpm with ⟨e, -⟩ | ⟨gm, e, hm⟩
    · rw [e] at hk; cases hk
    · rw [e] at hk; cases hk; exact PMat.lt hm)
  have hmv : ∃ mo, mv = .map mo := by
    rcases hpm with ⟨e, -⟩ | ⟨gm, e, -⟩
    · exact ⟨_, e⟩
    · exact ⟨_, e⟩
  obtain ⟨mo, rfl⟩ := hmv
  have HBX := Lib.hid hbox
  have HGT : Hid (gt < w.heap.size) := Lib.hid (lt_of_heap hbox)
  clear hv hF hn hpm hbox
  go_enter Try.func19, Try.ntmps19
  go_wp2_with fail
  rw [← HGS.out]
  clear hgs
  go_loopw [14] (fun i wr => ∃ k : Nat, k ≤ n ∧ i = .int .i64 (k : Int) ∧ Hid (PMat wr gs k (onlyP f last (ids.take k))) ∧ Hid (Below w.heap.size w wr)) (fun i _ => n - (intOf i).toNat)
  case atStart => exact ⟨0, Nat.zero_le _, rfl, Lib.hid H0.out.1, Lib.hid H0.out.2⟩
  case round =>
    obtain ⟨k, hk, rfl, HI, HB⟩ := hrel
    obtain ⟨c0, fz, cz⟩ := trk1 (old_below HBX.out HB.out)
    by_cases hlt : k < n
    · have hkk : (k : Int) < (n : Int) := by omega
      have hlt2 : k < ids.length := by rw [← HN.out]; exact hlt
      obtain ⟨b, off, rfl, -, e0, hr1, hr2⟩ := (HV.out.below HF.out HB.out).elem' HN.out k hlt
      obtain ⟨id, hid⟩ : ∃ id, id = ids[k] := ⟨_, rfl⟩
      rw [← hid] at e0 hr1 hr2
      have HT := Lib.hid (onlyP_take f last hlt2)
      rw [← hid] at HT
      have hl := ((HPM.out wr HB.out).look ⟨hr1, hr2⟩).2
      unfold peerV peerOf at hl
      have HR : Hid (In1 id) := Lib.hid ⟨hr1, hr2⟩
      obtain ⟨p, hp⟩ : ∃ p, p = (f id).getD (0, max last 0) := ⟨_, rfl⟩
      rw [← hp] at HT
      obtain ⟨w2, hst, hI3, hg, hsz⟩ := (PMat.same (w' := wr.alloc (.cells #[.int .i64 p.1, .int .i64 p.2] 71)) HI.out ((below_alloc _ _).block gs (PMat.lt HI.out))).store (by omega) ⟨hr1, hr2⟩ p
      unfold peerV at hst
      have HNX : Hid (PMat w2 gs (k + 1) (onlyP f last (ids.take (k + 1))) ∧ Below w.heap.size w w2) := Lib.hid ⟨by rw [HT.out]; exact hI3, (HB.out.trans ((below_alloc _ _).mono HB.out.size)).grown hg (by have := HB.out.size; simp; omega) (fun j hj => by cases hj; exact Nat.le_of_eq HGS.out.symm)⟩
      cases hf : f id with
      | none =>
        rw [hf] at hl hp
        simp only [Option.getD_none, Option.isSome_none] at hl hp
        subst hp
        simp only at hst
        clear hid hf hI3 hg hsz
        go_wp2_with fail
        go_roundw
        case rel => exact ⟨k + 1, by omega, by go_num, Lib.hid HNX.out.1, Lib.hid HNX.out.2⟩
        case measure => simp only [intOf]; omega
      | some p' =>
        rw [hf] at hl hp
        simp only [Option.getD_some, Option.isSome_some] at hl hp
        subst hp
        obtain ⟨m, b'⟩ := p
        simp only at hst hl
        clear hid hf hI3 hg hsz
        go_wp2_with fail
        go_roundw
        case rel => exact ⟨k + 1, by omega, by go_num, Lib.hid HNX.out.1, Lib.hid HNX.out.2⟩
        case measure => simp only [intOf]; omega
    · obtain rfl : k = n := by omega
      have hkk : ¬ ((k : Nat) : Int) < (k : Int) := by omega
      have HD : Hid (PMat wr gs k (onlyP f last ids)) := Lib.hid (by have := HI.out; rw [HN.out, List.take_length] at this; rw [HN.out]; exact this)
      have HBX2 := Lib.hid (old_below HBX.out HB.out)
      clear HI
      go_wp2_with fail
      go_end0
      refine ⟨rfl, (Only.of_below (X := fun j => j = gt) HB.out).set (.inl rfl) _, gs, Nat.le_of_eq HGS.out.symm, heap_set1 HBX2.out, HD.out.same (Below.heap_setCell _ _ _ _ ?_)⟩
      show gs ≠ gt
      have := HGT.out
      have := HGS.out
      omega

def NewTrackPost (n : Nat) (f : Int → Option (Int × Int)) (w : World) (e : Ending) (w' : World) : Prop :=
  ∃ gt gm, e = .returned (.pointer (some ⟨gt, 0, none⟩)) ∧ Below w.heap.size w w' ∧ w.heap.size ≤ gt ∧ w.heap.size ≤ gm ∧ TrackAt w' gt gm n f

def noP : Int → Option (Int × Int) := fun _ => none

set_option maxRecDepth 20000 in
set_option maxHeartbeats 1600000 in
theorem NewTrack_any (last : Int) (ids : List Int) (F : Nat → Prop) (v : Value) (w : World) (hv : RepI w F ids v) (hF : ∀ k, F k → k < w.heap.size) (hs : ids.length ≤ 1000000) :
    Calls Try.prog 17 #[.int .i64 last, v] w (NewTrackPost ids.length (onlyP noP last ids) w) := by
  obtain ⟨gt, hgt⟩ : ∃ gt, gt = w.heap.size := ⟨_, rfl⟩
  obtain ⟨W, hW⟩ : ∃ W, W = w.alloc (.cells #[.map none] 69) := ⟨_, rfl⟩
  have hbx : W.heap[gt]? = some (.cells #[.map none] 69) := by rw [hW]; exact heap_new _ _ _ hgt
  have hb : Below w.heap.size w W := by rw [hW]; exact below_alloc _ _
  have HC := Lib.hid (Only_any gt 0 (.map none) noP last ids F v W hbx (.inl ⟨rfl, fun _ => rfl⟩) (hv.below hF hb) (fun k hk => Nat.lt_of_lt_of_le (hF k hk) hb.size) hs)
  have HB := Lib.hid hb
  have HW : Hid (W = w.alloc (.cells #[.map none] 69)) := Lib.hid hW
  have HGT : Hid (gt = w.heap.size) := Lib.hid hgt
  obtain ⟨a, cp, rfl, -⟩ := hv.slice
  obtain ⟨n, hn⟩ : ∃ n, n = ids.length := ⟨_, rfl⟩
  rw [← hn] at HC ⊢
  obtain ⟨y, hy⟩ : ∃ y, y = onlyP noP last ids := ⟨_, rfl⟩
  rw [← hy] at HC ⊢
  clear hv hF hs hn hy hb hbx hW hgt
  go_enter Try.func17, Try.ntmps17
  go_wp2_with fail
  rw [← HGT.out, ← HW.out]
  refine HC.out.mono ?_
  rintro e w2 ⟨rfl, ho, gm, hgm, ht⟩
  have HP : Hid (NewTrackPost n y w (.returned (.pointer (some ⟨gt, 0, none⟩))) w2) := Lib.hid ⟨gt, gm, rfl, below_only HB.out ho (fun k hk => by have := HGT.out; omega), Nat.le_of_eq HGT.out.symm, Nat.le_trans HB.out.size hgm, ht⟩
  clear ho hgm ht
  go_wp2_with fail
  go_ret
  exact HP.out
end Go.Proofs.Ytenpbcpdecnhmaa.M

/- Part: TaE. -/
namespace Go.Proofs.Ytenpbcpdecnhmaa.M
open Go.RowKit Go.Maps

/-- A poll in memory. -/
structure PollAt (w : World) (gp gm : Nat) (V : List Int) (l : List (Bool × Int)) : Prop where
  box : w.heap[gp]? = some (.cells #[.map (some gm), .int .i64 (V.length : Int), .int .i64 (saysN V l true : Int), .int .i64 (saysN V l false : Int)] 65)
  map : ∃ n, IM w gm n (fun k => (silent V l k : Int))

theorem PollAt.ne {w : World} {gp gm : Nat} {V : List Int} {l : List (Bool × Int)} (h : PollAt w gp gm V l) : gm ≠ gp := fun e => by
  obtain ⟨n, M, ⟨es, c, hb, _⟩, _⟩ := h.map
  have := h.box
  rw [← e, hb] at this
  cases this

theorem PollAt.lt {w : World} {gp gm : Nat} {V : List Int} {l : List (Bool × Int)} (h : PollAt w gp gm V l) : gp < w.heap.size ∧ gm < w.heap.size := by
  obtain ⟨n, hm⟩ := h.map
  exact ⟨lt_of_heap h.box, hm.lt⟩

theorem PollAt.same {w w' : World} {gp gm : Nat} {V : List Int} {l : List (Bool × Int)} (h : PollAt w gp gm V l) (h1 : w'.heap[gp]? = w.heap[gp]?) (h2 : w'.heap[gm]? = w.heap[gm]?) : PollAt w' gp gm V l := by
  obtain ⟨hb, n, hm⟩ := h
  exact ⟨h1.trans hb, n, hm.same h2⟩

theorem PollAt.next {w w' : World} {gp gm : Nat} {V : List Int} {l : List (Bool × Int)} (h : PollAt w gp gm V l) (hb : Below w.heap.size w w') : PollAt w' gp gm V l := h.same (hb.block _ h.lt.1) (hb.block _ h.lt.2)

theorem block4 {w : World} {g : Nat} {x y z u : Value} {t : TypeId} (h : w.heap[g]? = some (.cells #[x, y, z, u] t)) :
    (w.cell? ⟨g, 0, none⟩ = some x ∧ w.cell? ⟨g, 1, none⟩ = some y ∧ w.cell? ⟨g, 2, none⟩ = some z ∧ w.cell? ⟨g, 3, none⟩ = some u) ∧ (w.frozen? ⟨g, 2, none⟩ = false ∧ w.frozen? ⟨g, 3, none⟩ = false) ∧ g < w.heap.size :=
  ⟨⟨cell_of_row w g 0 _ t _ h, cell_of_row w g 1 _ t _ h, cell_of_row w g 2 _ t _ h, cell_of_row w g 3 _ t _ h⟩, ⟨frozen_of_row w g 2 _ t h, frozen_of_row w g 3 _ t h⟩, lt_of_heap h⟩

theorem count_takeI {V : List Int} {k : Nat} (hk : k < V.length) (j : Int) : (V.take (k + 1)).count j = (V.take k).count j + if V[k] = j then 1 else 0 := by
  rw [take_snocI hk, List.count_append, List.count_singleton]
  simp

/-- A poll that a call made. -/
def NewPollPost (V : List Int) (w : World) (e : Ending) (w' : World) : Prop :=
  ∃ gp gm, e = .returned (.pointer (some ⟨gp, 0, none⟩)) ∧ Below w.heap.size w w' ∧ w.heap.size ≤ gp ∧ w.heap.size ≤ gm ∧ PollAt w' gp gm V []

set_option maxRecDepth 20000 in
set_option maxHeartbeats 3200000 in
theorem NewPoll_any (V Ls : List Int) (F : Nat → Prop) (vv lv : Value) (w : World) (hv : RepI w F V vv) (hl : RepI w F Ls lv) (hF : ∀ k, F k → k < w.heap.size) (hs : V.length ≤ 1000000) :
    Calls Try.prog 13 #[.agg #[vv, lv]] w (NewPollPost V w) := by
  obtain ⟨a, k, rfl, -⟩ := hv.slice
  obtain ⟨a', k', rfl, -⟩ := hl.slice
  obtain ⟨n, hn⟩ : ∃ n, n = V.length := ⟨_, rfl⟩
  obtain ⟨m, hm2⟩ : ∃ m, m = Ls.length := ⟨_, rfl⟩
  rw [← hn] at hs hv ⊢
  rw [← hm2] at hl ⊢
  obtain ⟨gc, hgc⟩ : ∃ gc, gc = w.heap.size := ⟨_, rfl⟩
  obtain ⟨gm, hgm⟩ : ∃ gm, gm = gc + 1 := ⟨_, rfl⟩
  obtain ⟨gp, hgp⟩ : ∃ gp, gp = gm + 1 := ⟨_, rfl⟩
  obtain ⟨W1, hW1⟩ : ∃ W1, W1 = w.alloc (.cells #[.slice a n k, .slice a' m k'] 24) := ⟨_, rfl⟩
  obtain ⟨W2, hW2⟩ : ∃ W2, W2 = W1.alloc (.map #[] 0) := ⟨_, rfl⟩
  obtain ⟨W, hW⟩ : ∃ W, W = W2.alloc (.cells #[.map (some gm), .int .i64 (n : Int), .int .i64 0, .int .i64 0] 65) := ⟨_, rfl⟩
  have hz1 : W1.heap.size = gc + 1 := by rw [hW1, hgc]; simp
  have hz2 : W2.heap.size = gm + 1 := by rw [hW2, hgm]; simp [hz1]
  have hb1 : Below w.heap.size w W1 := by rw [hW1]; exact below_alloc _ _
  have hb2 : Below W1.heap.size W1 W2 := by rw [hW2]; exact below_alloc _ _
  have hb3 : Below W2.heap.size W2 W := by rw [hW]; exact below_alloc _ _
  have HB : Hid (Below w.heap.size w W) := Lib.hid ((hb1.trans (hb2.mono hb1.size)).trans (hb3.mono (Nat.le_trans hb1.size hb2.size)))
  have hBX1 : W1.heap[gc]? = some (.cells #[.slice a n k, .slice a' m k'] 24) := by rw [hW1, hgc]; exact heap_alloc_new w _
  have HBX : Hid (W.heap[gc]? = some (.cells #[.slice a n k, .slice a' m k'] 24)) := Lib.hid (old_below (old_below hBX1 hb2) hb3)
  have HBP : Hid (W.heap[gp]? = some (.cells #[.map (some gm), .int .i64 (n : Int), .int .i64 0, .int .i64 0] 65)) := Lib.hid (by rw [hW]; exact heap_new _ _ _ (by omega))
  have HI : Hid (IM W gm 0 (fun j => ((V.take 0).count j : Int))) := Lib.hid (by
    have h := IM.made W1
    rw [← hW2, hz1, ← hgm] at h
    simpa using h.next hb3)
  have HV := Lib.hid (hv.below hF HB.out)
  have HFV := Lib.hid hF
  have HFW : Hid (∀ k, F k → k < W.heap.size) := Lib.hid fun k hk => Nat.lt_of_lt_of_le (hF k hk) HB.out.size
  have HN := Lib.hid hn
  have HGE : Hid (gc = w.heap.size ∧ gm = gc + 1 ∧ gp = gm + 1) := Lib.hid ⟨hgc, hgm, hgp⟩
  have HEQ : Hid (W1 = w.alloc (.cells #[.slice a n k, .slice a' m k'] 24) ∧ W2 = W1.alloc (.map #[] 0) ∧ W = W2.alloc (.cells #[.map (some gm), .int .i64 (n : Int), .int .i64 0, .int .i64 0] 65) ∧ W1.heap.size = gm ∧ W2.heap.size = gp) := Lib.hid ⟨hW1, hW2, hW, by omega, by omega⟩
  have HG := Lib.hid hgc
  obtain ⟨c0, -, -, -, cz⟩ := block2' hBX1
  obtain ⟨d0, -, -, -, dz⟩ := block2' HBX.out
  have hmm := @run_makeMap Try.prog
  clear hv hl hF hn hm2 hgc hgm hgp hW1 hW2 hW hz1 hz2 hb1 hb2 hb3 hBX1
  go_enter Try.func13, Try.ntmps13
  go_wp2_with fail
  obtain ⟨hgc, hgm, hgp⟩ := HGE.out
  obtain ⟨hW1, hW2, hW, -, -⟩ := HEQ.out
  rw [hW2, hW1] at hW
  rw [← hgc, ← hgm, ← hgp, ← hW]
  clear hgc hgm hgp hW hW1 hW2
  clear c0 cz d0 dz
  go_loopw [15] (fun i wr => ∃ z : Nat, z ≤ n ∧ i = .int .i64 (z : Int) ∧ Hid (Only (fun j => j = gm) W wr) ∧ Hid (IM wr gm z (fun j => ((V.take z).count j : Int)))) (fun i _ => n - (intOf i).toNat)
  case atStart => exact ⟨0, Nat.zero_le _, rfl, Lib.hid (Only.refl _ _), HI⟩
  case round =>
    obtain ⟨z, hz, rfl, HO, HM⟩ := hrel
    have HPZ : Hid (gp < W.heap.size ∧ gm < W.heap.size ∧ gp ≠ gm) := Lib.hid ⟨lt_of_heap HBP.out, HI.out.lt, by have := HGE.out; omega⟩
    by_cases hlt : z < n
    · have hkk : (z : Int) < (n : Int) := by omega
      have hlt2 : z < V.length := by rw [← HN.out]; exact hlt
      obtain ⟨b, off, rfl, -, e0, hr1, hr2⟩ := (HV.out.same (fun _ h => h) fun k hk => HO.out.block k (HFW.out k hk) (fun e => by
        have := HFV.out k hk
        have := HGE.out
        omega)).elem' HN.out z hlt
      obtain ⟨id, hid⟩ : ∃ id, id = V[z] := ⟨_, rfl⟩
      rw [← hid] at e0 hr1 hr2
      have hlk := HM.out.look ⟨hr1, hr2⟩
      obtain ⟨c, hc⟩ : ∃ c, c = (V.take z).count id := ⟨_, rfl⟩
      have hcn : c ≤ z := by rw [hc]; exact Nat.le_trans List.count_le_length (by rw [List.length_take]; omega)
      simp only [← hc] at hlk
      obtain ⟨p0, -, pz⟩ := block4 ((HO.out.block gp HPZ.out.1 HPZ.out.2.2).trans HBP.out)
      obtain ⟨p0, -, -, -⟩ := p0
      obtain ⟨w2, hst, hI3, hg, hsz⟩ := HM.out.store (by omega) ⟨hr1, hr2⟩ (v := (c : Int) + 1) (by omega)
      have HNX : Hid (Only (fun j => j = gm) W w2 ∧ IM w2 gm (z + 1) (fun j => ((V.take (z + 1)).count j : Int))) := Lib.hid ⟨HO.out.thn (fun j hj => .inl hj) (only_of_grown (X := fun j => j = gm) hg fun k hk => by cases hk; rfl), by
        have e : (fun j => if j = id then (c : Int) + 1 else ((V.take z).count j : Int)) = (fun j => ((V.take (z + 1)).count j : Int)) := by
          funext j
          rw [count_takeI hlt2, ← hid]
          by_cases e : j = id
          · subst e; simp [hc]
          · rw [if_neg e, if_neg fun h => e h.symm]; simp
        rw [← e]; exact hI3⟩
      clear hI3 hg hsz hid hc
      go_wp2_with fail
      go_roundw
      case rel => exact ⟨z + 1, by omega, by go_num, Lib.hid HNX.out.1, Lib.hid HNX.out.2⟩
      case measure => simp only [intOf]; omega
    · obtain rfl : z = n := by omega
      have hkk : ¬ ((z : Nat) : Int) < (z : Int) := by omega
      have HD : Hid (PollAt wr gp gm V []) := Lib.hid ⟨by
        rw [HO.out.block gp HPZ.out.1 HPZ.out.2.2, HBP.out, HN.out]
        simp [saysN, first], z, by
        have := HM.out
        rw [HN.out, List.take_length] at this
        have e : (fun k => (silent V [] k : Int)) = (fun j => (V.count j : Int)) := by funext j; rw [silent_nil]
        rw [e, HN.out]; exact this⟩
      have HBO : Hid (Below w.heap.size w wr ∧ w.heap.size ≤ gp ∧ w.heap.size ≤ gm) := Lib.hid ⟨below_only HB.out HO.out fun k hk => by have := HGE.out; omega, by have := HGE.out; omega, by have := HGE.out; omega⟩
      clear HM HO
      go_wp2_with fail
      go_ret
      exact ⟨gp, gm, rfl, HBO.out.1, HBO.out.2.1, HBO.out.2.2, HD.out⟩

def stN (n yes no : Nat) : Int := standN n yes no

set_option maxRecDepth 20000 in
set_option maxHeartbeats 3200000 in
theorem Stands_any (V : List Int) (l : List (Bool × Int)) (gp gm : Nat) (w : World) (h : PollAt w gp gm V l) (hs : V.length ≤ 1000000) :
    Calls Try.prog 14 #[.pointer (some ⟨gp, 0, none⟩)] w fun e w' => e = .returned (.int .i64 (standOf V l)) ∧ Below w.heap.size w w' ∧ w'.heap = w.heap := by
  obtain ⟨n, hn⟩ : ∃ n, n = V.length := ⟨_, rfl⟩
  obtain ⟨p, hp⟩ : ∃ p, p = saysN V l true := ⟨_, rfl⟩
  obtain ⟨q, hq⟩ : ∃ q, q = saysN V l false := ⟨_, rfl⟩
  obtain ⟨y, hy⟩ : ∃ y, y = standOf V l := ⟨_, rfl⟩
  have hpq : p + q ≤ n := by rw [hp, hq, hn]; exact says_both V l
  have hb := h.box
  rw [← hn] at hs hb
  rw [← hp, ← hq] at hb
  rw [← hy]
  have HY : Hid (y = standN n p q) := Lib.hid (by rw [hy, hn, hp, hq]; rfl)
  obtain ⟨m, hm⟩ : ∃ m, m = n / 2 + 1 := ⟨_, rfl⟩
  have HMO : Hid (∀ (u : World) s, Calls Try.prog 28 #[.int .i64 (n : Int)] (u.drewN s) fun e w' => e = .returned (.int .i64 (m : Int)) ∧ w' = u.drewN s) := Lib.hid fun u s => by rw [hm]; exact most_any n hs _
  have hmn : m ≤ n + 1 := by omega
  have HM := Lib.hid hm
  have HB := Lib.hid hb
  obtain ⟨⟨c0, c1, c2, c3⟩, -, cz⟩ := block4 hb
  clear h hn hp hq hy hm hb
  by_cases h1 : m ≤ p
  · have q1 : decide ((p : Int) ≥ (m : Int)) = true := decide_eq_true (by omega)
    have q1b : decide (m ≤ p) = true := decide_eq_true h1
    have HE : Hid (y = 1) := Lib.hid (by rw [HY.out]; unfold standN; rw [← HM.out, if_pos h1])
    clear h1
    go_enter Try.func14, Try.ntmps14
    go_wp2_with fail
    go_quiet ((go_at_call 28; with_reducible exact Calls.quiet_of_same (HMO.out _ _)))
    go_wp2_with fail
    go_ret
    exact ⟨by rw [HE.out]; rfl, below_drewN _ _, rfl⟩
  · have q1 : decide ((p : Int) ≥ (m : Int)) = false := decide_eq_false (by omega)
    have q1b : decide (m ≤ p) = false := decide_eq_false h1
    by_cases h2 : n - q < m
    · have q2 : decide ((n : Int) - (q : Int) < (m : Int)) = true := decide_eq_true (by omega)
      have HE : Hid (y = 2) := Lib.hid (by rw [HY.out]; unfold standN; rw [← HM.out, if_neg h1, if_pos h2])
      clear h1 h2
      go_enter Try.func14, Try.ntmps14
      go_wp2_with fail
      go_quiet ((go_at_call 28; with_reducible exact Calls.quiet_of_same (HMO.out _ _)))
      obtain ⟨W1, hW1⟩ : ∃ W1, W1 = w.drewN nq := ⟨_, rfl⟩
      have HW1 : Hid (Below w.heap.size w W1 ∧ W1.heap = w.heap) := Lib.hid (by rw [hW1]; exact ⟨below_drewN _ _, rfl⟩)
      rw [← hW1]
      clear hW1 c0 c1 c2 c3 cz
      obtain ⟨⟨c0, c1, c2, c3⟩, -, cz⟩ := block4 (w := W1) (by rw [HW1.out.2]; exact HB.out)
      go_wp2_with fail
      go_quiet ((go_at_call 28; with_reducible exact Calls.quiet_of_same (HMO.out _ _)))
      go_wp2_with fail
      go_ret
      exact ⟨by rw [HE.out]; rfl, HW1.out.1.trans ((below_drewN _ _).mono HW1.out.1.size), HW1.out.2⟩
    · have q2 : decide ((n : Int) - (q : Int) < (m : Int)) = false := decide_eq_false (by omega)
      have HE : Hid (y = 0) := Lib.hid (by rw [HY.out]; unfold standN; rw [← HM.out, if_neg h1, if_neg h2])
      clear h1 h2
      go_enter Try.func14, Try.ntmps14
      go_wp2_with fail
      go_quiet ((go_at_call 28; with_reducible exact Calls.quiet_of_same (HMO.out _ _)))
      obtain ⟨W1, hW1⟩ : ∃ W1, W1 = w.drewN nq := ⟨_, rfl⟩
      have HW1 : Hid (Below w.heap.size w W1 ∧ W1.heap = w.heap) := Lib.hid (by rw [hW1]; exact ⟨below_drewN _ _, rfl⟩)
      rw [← hW1]
      clear hW1 c0 c1 c2 c3 cz
      obtain ⟨⟨c0, c1, c2, c3⟩, -, cz⟩ := block4 (w := W1) (by rw [HW1.out.2]; exact HB.out)
      go_wp2_with fail
      go_quiet ((go_at_call 28; with_reducible exact Calls.quiet_of_same (HMO.out _ _)))
      go_wp2_with fail
      go_ret
      exact ⟨by rw [HE.out]; rfl, HW1.out.1.trans ((below_drewN _ _).mono HW1.out.1.size), HW1.out.2⟩
end Go.Proofs.Ytenpbcpdecnhmaa.M

/- Part: TaF. -/
namespace Go.Proofs.Ytenpbcpdecnhmaa.M
open Go.RowKit Go.Maps

theorem heap_set4 {w : World} {g : Nat} {x y z u v : Value} {t : TypeId} (h : w.heap[g]? = some (.cells #[x, y, z, u] t)) :
    (w.setCell ⟨g, 2, none⟩ v).heap[g]? = some (.cells #[x, y, v, u] t) ∧ (w.setCell ⟨g, 3, none⟩ v).heap[g]? = some (.cells #[x, y, z, v] t) := by
  constructor <;> simp [World.setCell, Array.getElem?_modify, h]

/-- These said so. -/
def saidBy (b : Bool) (ids : List Int) : List (Bool × Int) := ids.map fun i => (b, i)

theorem saidBy_take (b : Bool) {ids : List Int} {k : Nat} (hk : k < ids.length) : saidBy b (ids.take (k + 1)) = saidBy b (ids.take k) ++ [(b, ids[k])] := by
  unfold saidBy
  rw [take_snocI hk, List.map_append]; rfl

/-- One more said so. -/
theorem PollAt.says {w w2 : World} {gp gm : Nat} {V : List Int} {l : List (Bool × Int)} (h : PollAt w gp gm V l) (b : Bool) (id : Int) {c : Nat} (hc : c = silent V l id)
    (hb : w2.heap[gp]? = some (.cells #[.map (some gm), .int .i64 (V.length : Int), .int .i64 ((if b then saysN V l true + c else saysN V l true : Nat) : Int), .int .i64 ((if b then saysN V l false else saysN V l false + c : Nat) : Int)] 65))
    {n : Nat} {M : DataW Nat} (hm : w2.ownsMap Try.prog 3 (plainElem Try.prog 3) gm n (M.del (.int .i64 id))) (hM : ∀ k, M.atKey (.int .i64 k) (.lit (.int .i64 0)) = .lit (.int .i64 (silent V l k : Int))) :
    PollAt w2 gp gm V (l ++ [(b, id)]) := by
  refine ⟨?_, n, M.del (.int .i64 id), hm, fun k => ?_⟩
  · rw [hb, says_snoc, says_snoc, ← hc]
    cases b <;> simp
  · show _ = DataW.lit (.int .i64 (silent V (l ++ [(b, id)]) k : Int))
    rw [silent_snoc]
    by_cases e : k = id
    · subst e
      rw [atKey_del_same]; simp
    · rw [atKey_del_other (lit_ne e), hM, if_neg e]


set_option maxRecDepth 20000 in
set_option maxHeartbeats 3200000 in
theorem Say_any (V ids : List Int) (l : List (Bool × Int)) (b : Bool) (gp gm : Nat) (F : Nat → Prop) (v : Value) (w : World) (h : PollAt w gp gm V l) (hv : RepI w F ids v) (hF : ∀ k, F k → k < w.heap.size ∧ k ≠ gp ∧ k ≠ gm) (hs : V.length ≤ 1000000) :
    Calls Try.prog 16 #[.pointer (some ⟨gp, 0, none⟩), .bool b, v] w fun e w' => e = .returned (.tuple #[]) ∧ Only (fun j => j = gp ∨ j = gm) w w' ∧ PollAt w' gp gm V (l ++ saidBy b ids) := by
  obtain ⟨a, cp, rfl, hnb⟩ := hv.slice
  obtain ⟨n, hn⟩ : ∃ n, n = ids.length := ⟨_, rfl⟩
  rw [← hn] at hv hnb ⊢
  have HV := Lib.hid hv
  have HF := Lib.hid hF
  have HN := Lib.hid hn
  have H := Lib.hid h
  have HS := Lib.hid hs
  obtain ⟨⟨c0, c1, c2, c3⟩, ⟨fz2, fz3⟩, cz⟩ := block4 h.box
  clear hv hF hn h hs
  obtain ⟨b', hb'⟩ : ∃ b', b' = b := ⟨_, rfl⟩
  cases b with
  | true =>
    have HB := Lib.hid hb'
    clear hb'
    go_enter Try.func16, Try.ntmps16
    go_wp2_with fail
    clear c0 c1 c2 c3 cz fz2 fz3
    go_loopw [18] (fun i wr => ∃ k : Nat, k ≤ n ∧ i = .int .i64 (k : Int) ∧ Hid (Only (fun j => j = gp ∨ j = gm) w wr) ∧ Hid (PollAt wr gp gm V (l ++ saidBy b' (ids.take k)))) (fun i _ => n - (intOf i).toNat)
    case atStart => exact ⟨0, Nat.zero_le _, rfl, Lib.hid (Only.refl _ _), Lib.hid (by simpa [saidBy] using H.out)⟩
    case round =>
      obtain ⟨k, hk, rfl, HO, HP⟩ := hrel
      by_cases hlt : k < n
      · have hkk : (k : Int) < (n : Int) := by omega
        have hlt2 : k < ids.length := by rw [← HN.out]; exact hlt
        obtain ⟨bb, off, rfl, -, e0, hr1, hr2⟩ := (HV.out.same (fun _ h => h) fun k hk => HO.out.block k (HF.out k hk).1 (fun e => by
          have := HF.out k hk
          rcases e with e | e
          · exact this.2.1 e
          · exact this.2.2 e)).elem' HN.out k hlt
        obtain ⟨id, hid⟩ : ∃ id, id = ids[k] := ⟨_, rfl⟩
        rw [← hid] at e0 hr1 hr2
        obtain ⟨ll, hll⟩ : ∃ ll, ll = l ++ saidBy b' (ids.take k) := ⟨_, rfl⟩
        rw [← hll] at HP
        have HLL : Hid (l ++ saidBy b' (ids.take (k + 1)) = ll ++ [(b', id)]) := Lib.hid (by rw [saidBy_take b' hlt2, ← hid, ← List.append_assoc, hll])
        obtain ⟨c, hc⟩ : ∃ c, c = silent V ll id := ⟨_, rfl⟩
        obtain ⟨p, hp⟩ : ∃ p, p = saysN V ll true := ⟨_, rfl⟩
        obtain ⟨q, hq⟩ : ∃ q, q = saysN V ll false := ⟨_, rfl⟩
        have hb := HP.out.box
        have hpc : p + q + c ≤ 1000000 := by
          have h1 := says_both V (ll ++ [(b', id)])
          rw [says_snoc, says_snoc, ← hp, ← hq, ← hc] at h1
          have := HS.out
          cases b' <;> simp at h1 <;> omega
        obtain ⟨NN, M, hown, hM⟩ := HP.out.map
        have HOWN := Lib.hid hown
        have hlk := ((show IM wr gm NN (fun k => (silent V ll k : Int)) from ⟨M, hown, hM⟩).same (w' := wr.drew) rfl).look ⟨hr1, hr2⟩
        simp only [← hc] at hlk
        rw [← hp, ← hq] at hb
        have HBX := Lib.hid hb
        obtain ⟨⟨c0, c1, c2, c3⟩, ⟨fz2, fz3⟩, cz⟩ := block4 hb
        have HNE := Lib.hid HP.out.ne
        have HKEY := Lib.hid (key_int ⟨hr1, hr2⟩)
        have HC : Hid (c = silent V ll id ∧ p = saysN V ll true ∧ q = saysN V ll false) := Lib.hid ⟨hc, hp, hq⟩
        have HM := Lib.hid hM
        clear hid hll hc hp hq hb hown hM
        go_wp2_with fail
        go_still_tail 11, (by kernel_rfl)
        go_wp2_with (at_delete; refine wpList_delete_own _ rfl (.tmp 36) (.tmp 37) 60 3 rfl 3 lawInt Try.underlying60 (plainElem Try.prog 3) gm _ M rfl (ownsMap_same HOWN.out (Below.heap_setCell _ _ _ _ HNE.out)) (.int .i64 id) _ rfl HKEY.out ?_)
        intro w2 hown2 hturn2
        have HX : Hid (Only (fun j => j = gp ∨ j = gm) w w2 ∧ PollAt w2 gp gm V (l ++ saidBy b' (ids.take (k + 1)))) := Lib.hid (by
          have hg := hturn2.grown
          refine ⟨HO.out.then (Only.then ((Only.refl _ _).set (.inl (.inl rfl)) _).drawn (only_of_grown hg fun k hk => by cases hk; exact .inr rfl)), ?_⟩
          rw [HLL.out]
          refine HP.out.says b' id HC.out.1 ?_ hown2 HM.out
          have h4 := hg.block gp (by simp; exact lt_of_heap HBX.out) (by simpa using HNE.out.symm)
          rw [h4, ← HC.out.2.1, ← HC.out.2.2, HB.out]
          first
            | exact (heap_set4 HBX.out).1
            | exact (heap_set4 HBX.out).2)
        clear hown2 hturn2 hlk c0 c1 c2 c3 cz fz2 fz3 e0
        go_wp2_with fail
        go_roundw
        case rel => exact ⟨k + 1, by omega, by go_num, Lib.hid HX.out.1, Lib.hid HX.out.2⟩
        case measure => simp only [intOf]; omega
      · obtain rfl : k = n := by omega
        have hkk : ¬ ((k : Nat) : Int) < (k : Int) := by omega
        have HD : Hid (PollAt wr gp gm V (l ++ saidBy b' ids)) := Lib.hid (by have := HP.out; rw [HN.out, List.take_length] at this; exact this)
        rw [HB.out] at HD
        clear HP
        go_wp2_with fail
        go_end0
        exact ⟨rfl, HO.out, HD.out⟩
  | false =>
    have HB := Lib.hid hb'
    clear hb'
    go_enter Try.func16, Try.ntmps16
    go_wp2_with fail
    clear c0 c1 c2 c3 cz fz2 fz3
    go_loopw [18] (fun i wr => ∃ k : Nat, k ≤ n ∧ i = .int .i64 (k : Int) ∧ Hid (Only (fun j => j = gp ∨ j = gm) w wr) ∧ Hid (PollAt wr gp gm V (l ++ saidBy b' (ids.take k)))) (fun i _ => n - (intOf i).toNat)
    case atStart => exact ⟨0, Nat.zero_le _, rfl, Lib.hid (Only.refl _ _), Lib.hid (by simpa [saidBy] using H.out)⟩
    case round =>
      obtain ⟨k, hk, rfl, HO, HP⟩ := hrel
      by_cases hlt : k < n
      · have hkk : (k : Int) < (n : Int) := by omega
        have hlt2 : k < ids.length := by rw [← HN.out]; exact hlt
        obtain ⟨bb, off, rfl, -, e0, hr1, hr2⟩ := (HV.out.same (fun _ h => h) fun k hk => HO.out.block k (HF.out k hk).1 (fun e => by
          have := HF.out k hk
          rcases e with e | e
          · exact this.2.1 e
          · exact this.2.2 e)).elem' HN.out k hlt
        obtain ⟨id, hid⟩ : ∃ id, id = ids[k] := ⟨_, rfl⟩
        rw [← hid] at e0 hr1 hr2
        obtain ⟨ll, hll⟩ : ∃ ll, ll = l ++ saidBy b' (ids.take k) := ⟨_, rfl⟩
        rw [← hll] at HP
        have HLL : Hid (l ++ saidBy b' (ids.take (k + 1)) = ll ++ [(b', id)]) := Lib.hid (by rw [saidBy_take b' hlt2, ← hid, ← List.append_assoc, hll])
        obtain ⟨c, hc⟩ : ∃ c, c = silent V ll id := ⟨_, rfl⟩
        obtain ⟨p, hp⟩ : ∃ p, p = saysN V ll true := ⟨_, rfl⟩
        obtain ⟨q, hq⟩ : ∃ q, q = saysN V ll false := ⟨_, rfl⟩
        have hb := HP.out.box
        have hpc : p + q + c ≤ 1000000 := by
          have h1 := says_both V (ll ++ [(b', id)])
          rw [says_snoc, says_snoc, ← hp, ← hq, ← hc] at h1
          have := HS.out
          cases b' <;> simp at h1 <;> omega
        obtain ⟨NN, M, hown, hM⟩ := HP.out.map
        have HOWN := Lib.hid hown
        have hlk := ((show IM wr gm NN (fun k => (silent V ll k : Int)) from ⟨M, hown, hM⟩).same (w' := wr.drew) rfl).look ⟨hr1, hr2⟩
        simp only [← hc] at hlk
        rw [← hp, ← hq] at hb
        have HBX := Lib.hid hb
        obtain ⟨⟨c0, c1, c2, c3⟩, ⟨fz2, fz3⟩, cz⟩ := block4 hb
        have HNE := Lib.hid HP.out.ne
        have HKEY := Lib.hid (key_int ⟨hr1, hr2⟩)
        have HC : Hid (c = silent V ll id ∧ p = saysN V ll true ∧ q = saysN V ll false) := Lib.hid ⟨hc, hp, hq⟩
        have HM := Lib.hid hM
        clear hid hll hc hp hq hb hown hM
        go_wp2_with fail
        go_still_tail 11, (by kernel_rfl)
        go_wp2_with (at_delete; refine wpList_delete_own _ rfl (.tmp 36) (.tmp 37) 60 3 rfl 3 lawInt Try.underlying60 (plainElem Try.prog 3) gm _ M rfl (ownsMap_same HOWN.out (Below.heap_setCell _ _ _ _ HNE.out)) (.int .i64 id) _ rfl HKEY.out ?_)
        intro w2 hown2 hturn2
        have HX : Hid (Only (fun j => j = gp ∨ j = gm) w w2 ∧ PollAt w2 gp gm V (l ++ saidBy b' (ids.take (k + 1)))) := Lib.hid (by
          have hg := hturn2.grown
          refine ⟨HO.out.then (Only.then ((Only.refl _ _).set (.inl (.inl rfl)) _).drawn (only_of_grown hg fun k hk => by cases hk; exact .inr rfl)), ?_⟩
          rw [HLL.out]
          refine HP.out.says b' id HC.out.1 ?_ hown2 HM.out
          have h4 := hg.block gp (by simp; exact lt_of_heap HBX.out) (by simpa using HNE.out.symm)
          rw [h4, ← HC.out.2.1, ← HC.out.2.2, HB.out]
          first
            | exact (heap_set4 HBX.out).1
            | exact (heap_set4 HBX.out).2)
        clear hown2 hturn2 hlk c0 c1 c2 c3 cz fz2 fz3 e0
        go_wp2_with fail
        go_roundw
        case rel => exact ⟨k + 1, by omega, by go_num, Lib.hid HX.out.1, Lib.hid HX.out.2⟩
        case measure => simp only [intOf]; omega
      · obtain rfl : k = n := by omega
        have hkk : ¬ ((k : Nat) : Int) < (k : Int) := by omega
        have HD : Hid (PollAt wr gp gm V (l ++ saidBy b' ids)) := Lib.hid (by have := HP.out; rw [HN.out, List.take_length] at this; exact this)
        rw [HB.out] at HD
        clear HP
        go_wp2_with fail
        go_end0
        exact ⟨rfl, HO.out, HD.out⟩
end Go.Proofs.Ytenpbcpdecnhmaa.M

/- Part: TaB. -/
namespace Go.Proofs.Ytenpbcpdecnhmaa.M
open Go.RowKit Go.Sort

set_option maxRecDepth 20000 in
set_option maxHeartbeats 3200000 in
theorem Commit_any (V Ls : List Int) (ms : List (Int × Int)) (F G : Nat → Prop) (vv lv mv : Value) (w : World) (hv : RepI w F V vv) (hl : RepI w F Ls lv) (hF : ∀ k, F k → k < w.heap.size) (hm : RepM w G ms mv) (hG : ∀ k, G k → k < w.heap.size) (hs : V.length ≤ 1000000) (hms : ms.length ≤ 1000000) :
    Calls Try.prog 10 #[.agg #[vv, lv], mv] w fun e w' => e = .returned (.int .i64 (comOf V ms)) ∧ Below w.heap.size w w' := by
  obtain ⟨a, k, rfl, -⟩ := hv.slice
  obtain ⟨a', k', rfl, -⟩ := hl.slice
  obtain ⟨ma, mk, rfl, -⟩ := hm.slice
  obtain ⟨n, hn⟩ : ∃ n, n = V.length := ⟨_, rfl⟩
  obtain ⟨m, hm2⟩ : ∃ m, m = Ls.length := ⟨_, rfl⟩
  obtain ⟨q, hq⟩ : ∃ q, q = ms.length := ⟨_, rfl⟩
  rw [← hn] at hs hv ⊢
  rw [← hm2] at hl ⊢
  rw [← hq] at hms hm ⊢
  obtain ⟨L, hL⟩ : ∃ L, L = V.map (hasM ms) := ⟨_, rfl⟩
  obtain ⟨y, hy⟩ : ∃ y, y = comOf V ms := ⟨_, rfl⟩
  rw [← hy]
  have hyL : y = com L := by rw [hy, hL]; rfl
  have hLn : L.length = n := by rw [hL, List.length_map, hn]
  obtain ⟨W, hW⟩ : ∃ W, W = w.alloc (.cells #[.slice a n k, .slice a' m k'] 24) := ⟨_, rfl⟩
  have HB : Hid (Below w.heap.size w W) := Lib.hid (by rw [hW]; exact below_alloc _ _)
  obtain ⟨g, hg⟩ : ∃ g, g = w.heap.size := ⟨_, rfl⟩
  have hBX : W.heap[g]? = some (.cells #[.slice a n k, .slice a' m k'] 24) := by rw [hW, hg]; exact heap_alloc_new w _
  have HV := Lib.hid hv
  have HM := Lib.hid (hm.below hG HB.out)
  have HGW : Hid (∀ k, G k → k < W.heap.size) := Lib.hid fun k hk => Nat.lt_of_lt_of_le (hG k hk) HB.out.size
  have HF := Lib.hid hF
  have HN := Lib.hid hn
  have HQ := Lib.hid hq
  have HL := Lib.hid hL
  have HLN := Lib.hid hLn
  have HYL := Lib.hid hyL
  have HW := Lib.hid hW
  have HG := Lib.hid hg
  have HBX := Lib.hid hBX
  have HIN : Hid (In64 L) := Lib.hid (by
    intro x hx
    rw [hL] at hx
    obtain ⟨v, -, rfl⟩ := List.mem_map.1 hx
    exact hasM_in64 hm.rng v)
  obtain ⟨c0, -, -, -, cz⟩ := block2' hBX
  clear hv hl hm hF hG hn hm2 hq hL hy hyL hLn hW hg hBX
  by_cases h0 : n = 0
  · have q0 : ((n : Int) == 0) = true := by simp [h0]
    have HY : Hid (y = 0) := Lib.hid (by
      rw [HYL.out, List.length_eq_zero_iff.1 (HLN.out.trans h0)]; exact com_nil)
    clear h0
    go_enter Try.func10, Try.ntmps10
    go_wp2_with fail
    rw [← HG.out, ← HW.out]
    go_wp2_with fail
    go_ret
    exact ⟨by rw [HY.out]; rfl, by rw [HG.out]; exact HB.out⟩
  · have q0 : ((n : Int) == 0) = false := by simpa using h0
    have HN0 : Hid (¬ n = 0) := Lib.hid h0
    clear h0
    go_enter Try.func10, Try.ntmps10
    go_wp2_with fail
    rw [← HG.out, ← HW.out]
    go_wp2_with fail
    refine (greatest_any ms G _ W HM.out HGW.out (by rw [← HQ.out]; exact hms)).mono ?_
    rintro e w1 ⟨gm, rfl, hgm, hb1, hI1⟩
    have HB1 : Hid (Below w.heap.size w w1) := Lib.hid (HB.out.trans (hb1.mono HB.out.size))
    have HI1 := Lib.hid hI1
    obtain ⟨c0, -, -, -, cz⟩ := block2' (old_below HBX.out hb1)
    clear hgm hb1 hI1
    go_wp2_with fail
    go_loopw [6, 18] (fun v i wr => ∃ z : Nat, z ≤ n ∧ i = .int .i64 (z : Int) ∧ Hid (OwnI w1 (L.take z) v wr)) (fun _ i _ => n - (intOf i).toNat)
    case atStart => exact ⟨0, Nat.zero_le _, rfl, Lib.hid (by simpa using OwnI.start w1)⟩
    case round =>
      obtain ⟨z, hz, rfl, HO⟩ := hrel
      obtain ⟨va, vc, hva⟩ := HO.out.2.slice
      have hlen : (L.take z).length = z := by rw [List.length_take, HLN.out]; omega
      rw [hlen] at hva
      subst hva
      by_cases hlt : z < n
      · have hkk : (z : Int) < (n : Int) := by omega
        have hlt2 : z < V.length := by rw [← HN.out]; exact hlt
        have hlt3 : z < L.length := by rw [HLN.out]; exact hlt
        obtain ⟨b, off, rfl, -, e0, hr1, hr2⟩ := ((HV.out.below HF.out HB1.out).below (fun k hk => Nat.lt_of_lt_of_le (HF.out k hk) HB1.out.size) HO.out.1).elem' HN.out z hlt
        obtain ⟨id, hid⟩ : ∃ id, id = V[z] := ⟨_, rfl⟩
        rw [← hid] at e0 hr1 hr2
        have hlk := (HI1.out.next HO.out.1).look ⟨hr1, hr2⟩
        obtain ⟨x, hx⟩ : ∃ x, x = hasM ms id := ⟨_, rfl⟩
        rw [← hx] at hlk
        have hxl : L[z] = x := by simp only [HL.out, List.getElem_map]; rw [← hid, hx]
        have HX : Hid (L.take (z + 1) = L.take z ++ [x]) := Lib.hid (by rw [take_snocI hlt3, hxl])
        have HXB : Hid (-9223372036854775808 ≤ x ∧ x ≤ 9223372036854775807) := Lib.hid (by rw [← hxl]; exact HIN.out _ (List.getElem_mem hlt3))
        clear hid hx hxl hlt2 hlt3
        go_wp2_with (at_builtin; refine wpList_ir_append rfl (.tmp 22) (.tmp 26) rfl rfl (base := w1.heap.size) (L := L.take z) (L2 := [x]) rfl (HO.out.2.next (below_alloc wr _)) (by have := HO.out.1.size; simp; omega) rfl (one_int rfl HXB.out) (by rw [hlen]; simp; omega) ?_)
        intro v2 w2 ht
        have HO2 : Hid (OwnI w1 (L.take (z + 1)) v2 w2) := Lib.hid (by rw [HX.out]; exact (HO.out.next (below_alloc wr _)).turned ht)
        clear ht
        go_wp2_with fail
        go_roundw
        case rel => exact ⟨z + 1, by omega, by go_num, HO2⟩
        case measure => simp only [intOf]; omega
      · obtain rfl : z = n := by omega
        have hkk : ¬ ((z : Nat) : Int) < (z : Int) := by omega
        have HO2 : Hid (OwnI w1 L (.slice va z vc) wr) := Lib.hid (by
          have := HO.out
          rw [List.take_of_length_le (by rw [HLN.out]; exact Nat.le_refl _)] at this
          exact this)
        clear HO hlt hkk hlen hz
        have hkk : ¬ ((z : Nat) : Int) < (z : Int) := by omega
        go_wp2_with fail
        refine (Sort_any w1.heap.size L _ wr HO2.out.2 (by rw [HLN.out]; exact hs)).mono ?_
        rintro e w3 ⟨rfl, ht⟩
        have HO3 : Hid (OwnI w1 (sortN L) (.slice va z vc) w3) := Lib.hid (HO2.out.turned ht)
        clear ht
        have hsl : (sortN L).length = z := by rw [sortN_len, HLN.out]
        have HR := Lib.hid (hsl ▸ HO3.out.2.rep : RepI w3 (fun b => w1.heap.size ≤ b ∧ b < w3.heap.size) (sortN L) (.slice va z vc))
        have hn0 := HN0.out
        obtain ⟨hci, hce⟩ := com_at (L := L) (by intro e; have := HLN.out; rw [e] at this; simp at this; omega)
        obtain ⟨j, hj⟩ : ∃ j, j = z - (z / 2 + 1) := ⟨_, rfl⟩
        have hjz : j < z := by omega
        obtain ⟨b, off, rfl, -, e0, -, -⟩ := HR.out.elem' hsl.symm j hjz
        have hej : (sortN L)[j]'(by omega) = y := by
          rw [HYL.out, hce]
          congr 1
          rw [hj, HLN.out]
        rw [hej] at e0
        have hjj : IntKind.i64.wrap ((z : Int) - ((z / 2 + 1 : Nat) : Int)) = (j : Int) := by rw [IntWalk.i64_in _ (by omega)]; omega
        have hj1 : (0 : Int) ≤ (j : Int) ∧ (j : Int) < (z : Int) := by omega
        obtain ⟨t, htt⟩ : ∃ t : Nat, t = z / 2 + 1 := ⟨_, rfl⟩
        have HT := Lib.hid htt
        rw [← htt] at hjj
        clear hce hci hej hj hn0 htt hsl
        go_wp2_with fail
        refine (most_any z hs w3).mono ?_
        rintro e w4 ⟨rfl, rfl⟩
        rw [← HT.out]
        go_wp2_with fail
        go_ret
        exact ⟨rfl, HB1.out.trans (HO3.out.1.mono HB1.out.size)⟩
end Go.Proofs.Ytenpbcpdecnhmaa.M

/- Part: TaK. -/
namespace Go.Proofs.Ytenpbcpdecnhmaa.M
open Go.RowKit Go.Maps

theorem com_530 : comOf [1, 2, 3] [(1, 5), (2, 3)] = 3 := by
  have hL : ([1, 2, 3] : List Int).map (hasM [(1, 5), (2, 3)]) = [5, 3, 0] := by decide
  unfold comOf
  rw [hL]
  have h1 : (3 : Int) ≤ com [5, 3, 0] := (enough_iff (by simp)).1 (by decide)
  have h2 : ¬ (4 : Int) ≤ com [5, 3, 0] := fun h => absurd ((enough_iff (by simp)).2 h) (by decide)
  omega

theorem com_500 : comOf [1, 2, 3] [(1, 5)] = 0 := by
  have hL : ([1, 2, 3] : List Int).map (hasM [(1, 5)]) = [5, 0, 0] := by decide
  unfold comOf
  rw [hL]
  have h1 : (0 : Int) ≤ com [5, 0, 0] := (enough_iff (by simp)).1 (by decide)
  have h2 : ¬ (1 : Int) ≤ com [5, 0, 0] := fun h => absurd ((enough_iff (by simp)).2 h) (by decide)
  omega

theorem stand_a : standOf [1, 2, 3] ([] ++ saidBy true [1, 1]) = 0 := by decide
theorem stand_b : standOf [1, 2, 3] (([] ++ saidBy true [1, 1]) ++ saidBy true [3]) = 1 := by decide

def f0P : Int → Option (Int × Int) := onlyP noP 7 [2]
theorem f0P_at : f0P 2 = some (0, 7) := by simp [f0P, onlyP, noP]; decide
def f1P : Int → Option (Int × Int) := updP f0P 2 (0, 4)
def f2P : Int → Option (Int × Int) := updP f1P 2 (6, 6)
theorem f1P_at : f1P 2 = some (0, 4) := by simp [f1P, updP]
theorem f2P_at : f2P 2 = some (6, 6) := by simp [f2P, updP]
theorem chg_a : chg (backP 7 4) f0P 2 = (true, f1P) := by
  unfold chg
  rw [f0P_at]
  rfl
theorem chg_b : chg (ackP 6) f1P 2 = (true, f2P) := by
  unfold chg
  rw [f1P_at]
  rfl

/-- All that awake holds. -/
structure AwS (w : World) (gp gm gt gs : Nat) (l : List (Bool × Int)) (n : Nat) (f : Int → Option (Int × Int)) (wr : World) : Prop where
  low : Below w.heap.size w wr
  row : wr.heap[w.heap.size]? = some (.cells #[.int .i64 1, .int .i64 2, .int .i64 3] 3)
  box : wr.heap[w.heap.size + 1]? = some (.cells #[.slice (some ⟨w.heap.size, 0, none⟩) 3 3, .slice none 0 0] 24)
  poll : PollAt wr gp gm [1, 2, 3] l
  track : TrackAt wr gt gs n f
  high : (w.heap.size + 1 < gp ∧ w.heap.size + 1 < gm) ∧ w.heap.size + 1 < gt ∧ w.heap.size + 1 < gs
  apart : (gt ≠ gp ∧ gt ≠ gm) ∧ gs ≠ gp ∧ gs ≠ gm

section
variable {w wr w' : World} {gp gm gt gs : Nat} {l l' : List (Bool × Int)} {n n' : Nat} {f f' : Int → Option (Int × Int)}

theorem AwS.next (h : AwS w gp gm gt gs l n f wr) (hb : Below wr.heap.size wr w') : AwS w gp gm gt gs l n f w' :=
  ⟨h.low.trans (hb.mono h.low.size), old_below h.row hb, old_below h.box hb, h.poll.next hb, h.track.next hb, h.high, h.apart⟩

theorem AwS.said (h : AwS w gp gm gt gs l n f wr) (ho : Only (fun j => j = gp ∨ j = gm) wr w') (hp : PollAt w' gp gm [1, 2, 3] l') : AwS w gp gm gt gs l' n f w' := by
  have hh := h.high
  have ha := h.apart
  have keep : ∀ k, k < wr.heap.size → ¬ (k = gp ∨ k = gm) → w'.heap[k]? = wr.heap[k]? := fun k hk hn => ho.block k hk hn
  exact ⟨below_only h.low ho fun k hk => by rcases hk with hk | hk <;> omega, (keep _ (lt_of_heap h.row) (by omega)).trans h.row, (keep _ (lt_of_heap h.box) (by omega)).trans h.box, hp,
    h.track.same (keep _ h.track.lt.1 (by omega)) (keep _ h.track.lt.2 (by omega)), h.high, h.apart⟩

theorem AwS.told (h : AwS w gp gm gt gs l n f wr) (ho : Only (fun j => j = gs) wr w') (ht : TrackAt w' gt gs n' f') : AwS w gp gm gt gs l n' f' w' := by
  have hh := h.high
  have ha := h.apart
  have keep : ∀ k, k < wr.heap.size → k ≠ gs → w'.heap[k]? = wr.heap[k]? := fun k hk hn => ho.block k hk hn
  exact ⟨below_only h.low ho fun k hk => by omega, (keep _ (lt_of_heap h.row) (by omega)).trans h.row, (keep _ (lt_of_heap h.box) (by omega)).trans h.box, h.poll.same (keep _ h.poll.lt.1 (by omega)) (keep _ h.poll.lt.2 (by omega)), ht, h.high, h.apart⟩

theorem AwS.rep (h : AwS w gp gm gt gs l n f wr) : RepI wr (fun b => b < wr.heap.size) [1, 2, 3] (.slice (some ⟨w.heap.size, 0, none⟩) 3 3) := by
  refine .inr ⟨w.heap.size, 0, 3, rfl, lt_of_heap h.row, by simp, by omega, fun i hi => ?_⟩
  have h0 := fun j => cell_of_row wr w.heap.size j _ _ _ h.row
  have hi2 : i < 3 := by simpa using hi
  rcases (show i = 0 ∨ i = 1 ∨ i = 2 by omega) with rfl | rfl | rfl
  · exact ⟨h0 0, by simp⟩
  · exact ⟨h0 1, by simp⟩
  · exact ⟨h0 2, by simp⟩
end

/-- Matches in a new block. -/
theorem RepM.one {w : World} {a b : Int} {g : Nat} (hg : g = w.heap.size) (hr : In64p (a, b)) : RepM (w.alloc (.cells #[.int .i64 a, .int .i64 b] 32)) (fun k => k < w.heap.size + 1) [(a, b)] (.slice (some ⟨g, 0, none⟩) 1 1) := by
  subst hg
  refine .inr ⟨w.heap.size, 0, 1, rfl, by omega, by simp, by omega, fun i hi => ?_⟩
  obtain rfl : i = 0 := by simpa using hi
  have h0 := fun j => cell_of_row _ w.heap.size j _ _ _ (heap_alloc_new w (.cells #[.int .i64 a, .int .i64 b] 32))
  exact ⟨⟨h0 0, h0 1⟩, hr⟩

theorem RepM.two {w : World} {a b c d : Int} {g : Nat} (hg : g = w.heap.size) (hr : In64p (a, b)) (hr2 : In64p (c, d)) : RepM (w.alloc (.cells #[.int .i64 a, .int .i64 b, .int .i64 c, .int .i64 d] 32)) (fun k => k < w.heap.size + 1) [(a, b), (c, d)] (.slice (some ⟨g, 0, none⟩) 2 2) := by
  subst hg
  refine .inr ⟨w.heap.size, 0, 2, rfl, by omega, by simp, by omega, fun i hi => ?_⟩
  have h0 := fun j => cell_of_row _ w.heap.size j _ _ _ (heap_alloc_new w (.cells #[.int .i64 a, .int .i64 b, .int .i64 c, .int .i64 d] 32))
  have hi2 : i < 2 := by simpa using hi
  rcases (show i = 0 ∨ i = 1 by omega) with rfl | rfl
  · exact ⟨⟨h0 0, h0 1⟩, hr⟩
  · exact ⟨⟨h0 2, h0 3⟩, hr2⟩

set_option maxRecDepth 20000 in
theorem small_any (V L : List Int) (F : Nat → Prop) (vv lv : Value) (w : World) (hv : RepI w F V vv) (hl : RepI w F L lv) :
    Calls Try.prog 9 #[.agg #[vv, lv]] w fun e w' => e = .returned (.bool (decide (V.length ≤ 60 ∧ L.length ≤ 60))) ∧ Below w.heap.size w w' := by
  obtain ⟨a, k, rfl, -⟩ := hv.slice
  obtain ⟨a', k', rfl, -⟩ := hl.slice
  obtain ⟨n, hn⟩ : ∃ n, n = V.length := ⟨_, rfl⟩
  obtain ⟨m, hm⟩ : ∃ m, m = L.length := ⟨_, rfl⟩
  rw [← hn, ← hm]
  obtain ⟨y, hy⟩ : ∃ y, y = decide (n ≤ 60 ∧ m ≤ 60) := ⟨_, rfl⟩
  rw [← hy]
  have HY := Lib.hid hy
  clear hv hl hn hm hy
  by_cases h1 : n ≤ 60
  · have q1 : decide ((n : Int) ≤ 60) = true := decide_eq_true (by omega)
    have HE : Hid (y = decide ((m : Int) ≤ 60)) := Lib.hid (by rw [HY.out]; rw [decide_eq_decide]; omega)
    go_enter Try.func9, Try.ntmps9
    go_wp2_with fail
    go_ret
    exact ⟨by rw [HE.out]; rfl, below_alloc _ _⟩
  · have q1 : decide ((n : Int) ≤ 60) = false := decide_eq_false (by omega)
    have HE : Hid (y = false) := Lib.hid (by rw [HY.out]; exact decide_eq_false (by omega))
    go_enter Try.func9, Try.ntmps9
    go_wp2_with fail
    go_ret
    exact ⟨by rw [HE.out]; rfl, below_alloc _ _⟩
end Go.Proofs.Ytenpbcpdecnhmaa.M

/- Part: TaL. -/
namespace Go.Proofs.Ytenpbcpdecnhmaa.M
open Go.RowKit Go.Maps

set_option maxRecDepth 20000 in
set_option maxHeartbeats 6400000 in
theorem awake9_any (w : World) : Calls Try.prog 8 #[] w fun e w' => e = .returned (.bool true) ∧ Below w.heap.size w w' := by
  obtain ⟨g0, hg0⟩ : ∃ g0, g0 = w.heap.size := ⟨_, rfl⟩
  obtain ⟨W, hW⟩ : ∃ W, W = (w.alloc (.cells #[.int .i64 1, .int .i64 2, .int .i64 3] 3)).alloc (.cells #[.slice (some ⟨g0, 0, none⟩) 3 3, .slice none 0 0] 24) := ⟨_, rfl⟩
  have hb : Below w.heap.size w W := by rw [hW]; exact (below_alloc _ _).alloc (by simp) _
  have hz : W.heap.size = g0 + 2 := by rw [hW, hg0]; simp
  have hr : W.heap[g0]? = some (.cells #[.int .i64 1, .int .i64 2, .int .i64 3] 3) := by rw [hW]; exact old_alloc (heap_new _ _ _ hg0)
  have hx : W.heap[g0 + 1]? = some (.cells #[.slice (some ⟨g0, 0, none⟩) 3 3, .slice none 0 0] 24) := by rw [hW]; exact heap_new _ _ _ (by rw [hg0]; simp)
  have hrep : RepI W (fun b => b < W.heap.size) [1, 2, 3] (.slice (some ⟨g0, 0, none⟩) 3 3) := by
    refine .inr ⟨g0, 0, 3, rfl, by omega, by simp, by omega, fun i hi => ?_⟩
    have h0 := fun j => cell_of_row W g0 j _ _ _ hr
    have hi2 : i < 3 := by simpa using hi
    rcases (show i = 0 ∨ i = 1 ∨ i = 2 by omega) with rfl | rfl | rfl
    · exact ⟨h0 0, by simp⟩
    · exact ⟨h0 1, by simp⟩
    · exact ⟨h0 2, by simp⟩
  have HNP := Lib.hid (NewPoll_any [1, 2, 3] [] (fun b => b < W.heap.size) _ (.slice none 0 0) W hrep (.inl ⟨rfl, Bare.nil⟩) (fun k hk => hk) (by simp))
  have HB := Lib.hid hb
  have HZ := Lib.hid hz
  have HR := Lib.hid hr
  have HX := Lib.hid hx
  have HG := Lib.hid hg0
  have HW := Lib.hid hW
  clear hb hz hr hx hrep hg0 hW
  go_enter Try.func8, Try.ntmps8
  go_wp2_with fail
  rw [← HG.out, ← HW.out]
  refine HNP.out.mono ?_
  rintro e w1 ⟨gp, gm, rfl, hb1, hgp, hgm, hp1⟩
  obtain ⟨W1, hW1⟩ : ∃ W1, W1 = w1.alloc (.cells #[.int .i64 2] 3) := ⟨_, rfl⟩
  have hbW1 : Below w1.heap.size w1 W1 := by rw [hW1]; exact below_alloc _ _
  have hrow2 := RepI.lit (w := w1) (l := [2]) (g := w1.heap.size) rfl rfl (by simp) (In64.small (by simp)) (n := 1) rfl
  have HNT := Lib.hid (NewTrack_any 7 [2] (fun b => b < w1.heap.size + 1) (.slice (some ⟨w1.heap.size, 0, none⟩) 1 1) W1 (by rw [hW1]; exact hrow2) (fun k hk => by rw [hW1]; simpa using hk) (by simp))
  have HW1 := Lib.hid hW1
  have HBW1 := Lib.hid hbW1
  have HB1 := Lib.hid hb1
  have HP1 := Lib.hid hp1
  have HGP : Hid (W.heap.size ≤ gp ∧ W.heap.size ≤ gm) := Lib.hid ⟨hgp, hgm⟩
  clear hW1 hbW1 hrow2 hb1 hp1 hgp hgm
  go_wp2_with fail
  rw [← HW1.out]
  refine HNT.out.mono ?_
  rintro e w2 ⟨gt, gs, rfl, hb2, hgt, hgs, ht2⟩
  have HA2 : Hid (AwS w gp gm gt gs [] 1 f0P w2) := Lib.hid (by
    have h1 := HP1.out.lt
    have h2 := HBW1.out.size
    have h3 := HB1.out.size
    have h4 := HZ.out
    have h5 := HG.out
    have h6 := HGP.out
    have hb12 : Below w1.heap.size w1 w2 := HBW1.out.trans (hb2.mono h2)
    have hb02 : Below W.heap.size W w2 := HB1.out.trans (hb12.mono h3)
    refine ⟨HB.out.trans (hb02.mono HB.out.size), ?_, ?_, HP1.out.next hb12, ht2, ⟨⟨?_, ?_⟩, ?_, ?_⟩, ⟨?_, ?_⟩, ?_, ?_⟩
    · rw [← h5]; exact old_below HR.out hb02
    · rw [← h5]; exact old_below HX.out hb02
    all_goals omega)
  clear hb2 hgt hgs ht2 HNT HNP HW HW1 HBW1 HB1 HP1 HGP HX HR HZ HB
  go_wp2_with fail
  have HS3 := Lib.hid (Say_any [1, 2, 3] [1, 1] [] true gp gm (fun b => b = w2.heap.size) (.slice (some ⟨w2.heap.size, 0, none⟩) 2 2) (w2.alloc (.cells #[.int .i64 1, .int .i64 1] 3)) (HA2.out.next (below_alloc _ _)).poll
    ((RepI.lit (w := w2) (l := [1, 1]) (g := w2.heap.size) rfl rfl (by simp) (In64.small (by simp)) (n := 2) rfl).exact rfl) (fun k hk => by have := HA2.out.poll.lt; simp; omega) (by simp))
  refine HS3.out.mono ?_
  rintro e w3 ⟨rfl, ho3, hp3⟩
  have HA3 := Lib.hid ((HA2.out.next (below_alloc w2 (.cells #[.int .i64 1, .int .i64 1] 3))).said ho3 hp3)
  clear ho3 hp3 HS3 HA2
  go_wp2_with fail
  have HS4 := Lib.hid (Stands_any _ _ gp gm w3 HA3.out.poll (by simp))
  rw [stand_a] at HS4
  refine HS4.out.mono ?_
  rintro e w4 ⟨rfl, hb4, -⟩
  have HA4 := Lib.hid (HA3.out.next hb4)
  clear hb4 HS4 HA3
  go_wp2_with fail
  have HS5 := Lib.hid (Say_any [1, 2, 3] [3] _ true gp gm (fun b => b = w4.heap.size) (.slice (some ⟨w4.heap.size, 0, none⟩) 1 1) (w4.alloc (.cells #[.int .i64 3] 3)) (HA4.out.next (below_alloc _ _)).poll
    ((RepI.lit (w := w4) (l := [3]) (g := w4.heap.size) rfl rfl (by simp) (In64.small (by simp)) (n := 1) rfl).exact rfl) (fun k hk => by have := HA4.out.poll.lt; simp; omega) (by simp))
  refine HS5.out.mono ?_
  rintro e w5 ⟨rfl, ho5, hp5⟩
  have HA5 := Lib.hid ((HA4.out.next (below_alloc w4 (.cells #[.int .i64 3] 3))).said ho5 hp5)
  clear ho5 hp5 HS5 HA4
  go_wp2_with fail
  have HN6 := Lib.hid (next_any gt gs 1 f0P 2 (by omega) w5 HA5.out.track (by
    intro p hp
    rw [f0P_at] at hp
    cases hp
    simp))
  rw [show nextOf f0P 2 = 8 by unfold nextOf; rw [f0P_at]; rfl] at HN6
  refine HN6.out.mono ?_
  rintro e w6 ⟨rfl, hb6⟩
  have HA6 := Lib.hid (HA5.out.next hb6)
  clear hb6 HN6 HA5
  go_wp2_with fail
  have HK7 := Lib.hid (Back_any gt gs 1 f0P 2 7 4 ⟨by omega, by omega⟩ ⟨by omega, by omega⟩ (by
    intro p hp
    rw [f0P_at] at hp
    cases hp
    simp) w6 HA6.out.track (by omega))
  rw [chg_a] at HK7
  refine HK7.out.mono ?_
  rintro e w7 ⟨rfl, ho7, ht7⟩
  have HA7 := Lib.hid (HA6.out.told ho7 ht7)
  clear ho7 ht7 HK7 HA6
  go_wp2_with fail
  have HK8 := Lib.hid (Ack_any gt gs 2 f1P 2 6 ⟨by omega, by omega⟩ w7 HA7.out.track (by omega))
  rw [chg_b] at HK8
  refine HK8.out.mono ?_
  rintro e w8 ⟨rfl, ho8, ht8⟩
  have HA8 := Lib.hid (HA7.out.told ho8 ht8)
  clear ho8 ht8 HK8 HA7
  have HBX : Hid (∀ w' : World, Below w8.heap.size w8 w' → w'.heap[g0 + 1]? = some (.cells #[.slice (some ⟨g0, 0, none⟩) 3 3, .slice none 0 0] 24) ∧ RepI w' (fun b => b < w8.heap.size) [1, 2, 3] (.slice (some ⟨g0, 0, none⟩) 3 3)) := Lib.hid fun w' hb' => by
    rw [HG.out]
    exact ⟨old_below HA8.out.box hb', HA8.out.rep.below (fun k hk => hk) hb'⟩
  obtain ⟨c0, c1, -, -, cz⟩ := block2' (HBX.out w8 (Below.refl _ _)).1
  go_wp2_with fail
  have hbm := below_alloc w8 (.cells #[.int .i64 1, .int .i64 5, .int .i64 2, .int .i64 3] 32)
  have HC9 := Lib.hid (Commit_any [1, 2, 3] [] [(1, 5), (2, 3)] (fun b => b < w8.heap.size) (fun k => k < w8.heap.size + 1) _ (.slice none 0 0) _ _ (HBX.out _ hbm).2 (.inl ⟨rfl, Bare.nil⟩) (fun k hk => Nat.lt_of_lt_of_le hk hbm.size) (RepM.two (g := w8.heap.size) rfl ⟨by omega, by omega⟩ ⟨by omega, by omega⟩) (fun k hk => by simpa using hk) (by simp) (by simp))
  rw [com_530] at HC9
  have HBM := Lib.hid hbm
  clear hbm
  refine HC9.out.mono ?_
  rintro e w9 ⟨rfl, hb9⟩
  have HB9 : Hid (Below w8.heap.size w8 w9) := Lib.hid (HBM.out.trans (hb9.mono HBM.out.size))
  clear hb9 HC9 HBM c0 c1 cz
  obtain ⟨c0, c1, -, -, cz⟩ := block2' (HBX.out w9 HB9.out).1
  go_wp2_with fail
  have hbm : Below w8.heap.size w8 (w9.alloc (.cells #[.int .i64 1, .int .i64 5] 32)) := HB9.out.alloc HB9.out.size _
  have HC10 := Lib.hid (Commit_any [1, 2, 3] [] [(1, 5)] (fun b => b < w8.heap.size) (fun k => k < w9.heap.size + 1) _ (.slice none 0 0) _ _ (HBX.out _ hbm).2 (.inl ⟨rfl, Bare.nil⟩) (fun k hk => Nat.lt_of_lt_of_le hk hbm.size) (RepM.one (g := w9.heap.size) rfl ⟨by omega, by omega⟩) (fun k hk => by simpa using hk) (by simp) (by simp))
  rw [com_500] at HC10
  have HBM := Lib.hid hbm
  clear hbm
  refine HC10.out.mono ?_
  rintro e w10 ⟨rfl, hb10⟩
  have HB10 : Hid (Below w8.heap.size w8 w10) := Lib.hid (HBM.out.trans (hb10.mono HBM.out.size))
  have HA10 := Lib.hid (HA8.out.next HB10.out)
  clear hb10 HC10 HBM c0 c1 cz HB9 HA8 HBX
  go_wp2_with fail
  have HS11 := Lib.hid (Stands_any _ _ gp gm w10 HA10.out.poll (by simp))
  rw [stand_b] at HS11
  refine HS11.out.mono ?_
  rintro e w11 ⟨rfl, hb11, -⟩
  have HA11 := Lib.hid (HA10.out.next hb11)
  clear hb11 HS11 HA10
  go_wp2_with fail
  have HM12 := Lib.hid (match_any gt gs _ f2P 2 (by omega) w11 HA11.out.track)
  rw [show matchOf f2P 2 = 6 by unfold matchOf peerOf; rw [f2P_at]; rfl] at HM12
  refine HM12.out.mono ?_
  rintro e w12 ⟨rfl, rfl⟩
  clear HM12
  go_wp2_with fail
  have HN13 := Lib.hid (next_any gt gs _ f2P 2 (by omega) w12 HA11.out.track (by
    intro p hp
    rw [f2P_at] at hp
    cases hp
    simp))
  rw [show nextOf f2P 2 = 7 by unfold nextOf; rw [f2P_at]; rfl] at HN13
  refine HN13.out.mono ?_
  rintro e w13 ⟨rfl, hb13⟩
  have HA13 := Lib.hid (HA11.out.next hb13)
  clear hb13 HN13 HA11
  go_wp2_with fail
  go_ret
  exact ⟨rfl, HA13.out.low⟩
end Go.Proofs.Ytenpbcpdecnhmaa.M

/- Part: TaP. -/
namespace Go.Proofs.Ytenpbcpdecnhmaa.M

/-- A peer as the document has it: its number, its match, its next. -/
abbrev Pr := Int × Int × Int

def Sorted3 (l : List Pr) : Prop := l.Pairwise fun a b => a.1 < b.1

/-- The list says what the map says. -/
structure Rel (l : List Pr) (f : Int → Option (Int × Int)) : Prop where
  sorted : Sorted3 l
  mem : ∀ id m nx, (id, m, nx) ∈ l ↔ f id = some (m, nx - 1)

theorem Rel.nil : Rel [] noP := ⟨List.Pairwise.nil, fun _ _ _ => by simp [noP]⟩

/-- Two peers of one number are one. -/
theorem Sorted3.uniq {l : List Pr} (h : Sorted3 l) {x y : Pr} (hx : x ∈ l) (hy : y ∈ l) (he : x.1 = y.1) : x = y := by
  induction l with
  | nil => simp at hx
  | cons z r ih =>
    obtain ⟨h1, h2⟩ := List.pairwise_cons.1 h
    rcases List.mem_cons.1 hx with hx1 | hx1
    · rcases List.mem_cons.1 hy with hy1 | hy1
      · rw [hx1, hy1]
      · have := h1 y hy1; rw [← hx1] at this; omega
    · rcases List.mem_cons.1 hy with hy1 | hy1
      · have := h1 x hx1; rw [← hy1] at this; omega
      · exact ih h2 hx1 hy1

theorem sorted3_lt {l : List Pr} (h : Sorted3 l) {i j : Nat} (hj : j < l.length) (hij : i < j) : l[i].1 < l[j].1 := List.pairwise_iff_getElem.1 h i j (by omega) hj hij

/-- What the document looks for: the one that is there, or the new one. -/
def pick (l : List Pr) (k : Nat) (id : Int) (p0 : Pr) : Pr := ((l.take k).foldl (fun p x => if x.1 = id then x else p) p0)

theorem pick_zero (l : List Pr) (id : Int) (p0 : Pr) : pick l 0 id p0 = p0 := by simp [pick]

theorem pick_step {l : List Pr} {k : Nat} (hk : k < l.length) (id : Int) (p0 : Pr) : pick l (k + 1) id p0 = if l[k].1 = id then l[k] else pick l k id p0 := by
  unfold pick
  rw [List.take_add_one, List.getElem?_eq_getElem hk, Option.toList_some, List.foldl_append]
  rfl

theorem pick_cases (l : List Pr) (id : Int) (p0 : Pr) (k : Nat) : (pick l k id p0 ∈ l.take k ∧ (pick l k id p0).1 = id) ∨ (pick l k id p0 = p0 ∧ ∀ x ∈ l.take k, x.1 ≠ id) := by
  induction k with
  | zero => right; simp [pick]
  | succ k ih =>
    rcases Nat.lt_or_ge k l.length with hk | hk
    · rw [pick_step hk, List.take_add_one, List.getElem?_eq_getElem hk, Option.toList_some]
      by_cases e : l[k].1 = id
      · rw [if_pos e]
        exact .inl ⟨List.mem_append_right _ (List.mem_singleton.2 rfl), e⟩
      · rw [if_neg e]
        rcases ih with ⟨h1, h2⟩ | ⟨h1, h2⟩
        · exact .inl ⟨List.mem_append_left _ h1, h2⟩
        · refine .inr ⟨h1, fun x hx => ?_⟩
          rcases List.mem_append.1 hx with hx | hx
          · exact h2 x hx
          · rw [List.mem_singleton.1 hx]; exact e
    · have e : l.take (k + 1) = l.take k := by rw [List.take_of_length_le hk, List.take_of_length_le (by omega)]
      unfold pick at ih ⊢
      rw [e]
      exact ih

/-- The chosen peer, by the map. -/
def chosen (f : Int → Option (Int × Int)) (last id : Int) : Pr := (id, ((f id).getD (0, max last 0)).1, ((f id).getD (0, max last 0)).2 + 1)

theorem pick_is {l : List Pr} {f : Int → Option (Int × Int)} (h : Rel l f) (id last : Int) : pick l l.length id (id, 0, max last 0 + 1) = chosen f last id := by
  rcases pick_cases l id (id, 0, max last 0 + 1) l.length with ⟨h1, h2⟩ | ⟨h1, h2⟩
  · rw [List.take_length] at h1
    generalize pick l l.length id (id, 0, max last 0 + 1) = z at h1 h2 ⊢
    obtain ⟨i, m, nx⟩ := z
    simp only at h2
    subst h2
    have := (h.mem i m nx).1 h1
    unfold chosen
    rw [this]
    simp
  · rw [h1]
    rw [List.take_length] at h2
    have hn : f id = none := by
      cases hf : f id with
      | none => rfl
      | some p =>
        exact absurd rfl (h2 (id, p.1, p.2 + 1) ((h.mem id p.1 (p.2 + 1)).2 (by rw [hf]; simp)))
    unfold chosen
    rw [hn]
    rfl

/-- How many lead that are smaller. -/
def Leads (l : List Pr) (id : Int) (k : Nat) : Prop := k ≤ l.length ∧ ∀ j (hj : j < l.length), j < k → l[j].1 < id

theorem Rel.there {l : List Pr} {f : Int → Option (Int × Int)} (h : Rel l f) {id : Int} {k : Nat} (hk : k < l.length) (he : l[k].1 = id) {p : Int × Int} (hp : ∀ m nx, (id, m, nx) ∈ l → (m, nx - 1) = p) : Rel l (updP f id p) := by
  refine ⟨h.sorted, fun i m nx => ?_⟩
  unfold updP
  by_cases e : i = id
  · rw [if_pos e, e]
    constructor
    · intro hm
      rw [hp m nx hm]
    · intro hm
      have hx : l[k] ∈ l := List.getElem_mem hk
      have e2 : l[k] = (id, l[k].2.1, l[k].2.2) := by rw [← he]
      rw [e2] at hx
      have h3 := hp _ _ hx
      have h4 : (m, nx - 1) = p := (Option.some.inj hm).symm
      rw [← h3] at h4
      have h5 := (Prod.mk.inj h4).1
      have h6 := (Prod.mk.inj h4).2
      have h7 : nx = l[k].2.2 := by omega
      rw [h5, h7]
      exact hx
  · rw [if_neg e]
    exact h.mem i m nx

theorem Rel.insert {l : List Pr} {f : Int → Option (Int × Int)} (h : Rel l f) {id : Int} {k : Nat} (hl : Leads l id k) (hs : ∀ hk : k < l.length, ¬ l[k].1 < id) (hne : ∀ hk : k < l.length, l[k].1 ≠ id) (p : Int × Int) :
    Rel (l.take k ++ (id, p.1, p.2 + 1) :: l.drop k) (updP f id p) := by
  have hlt : ∀ x ∈ l.take k, x.1 < id := fun x hx => by
    obtain ⟨j, hj, rfl⟩ := List.mem_iff_getElem.1 hx
    have hj2 : j < k ∧ j < l.length := by simp at hj; omega
    simp only [List.getElem_take]
    exact hl.2 j hj2.2 hj2.1
  have hgt : ∀ x ∈ l.drop k, id < x.1 := fun x hx => by
    obtain ⟨j, hj, rfl⟩ := List.mem_iff_getElem.1 hx
    have hj2 : k + j < l.length := by simp at hj; omega
    simp only [List.getElem_drop]
    have h1 := hs (by omega)
    have h2 := hne (by omega)
    rcases Nat.eq_zero_or_pos j with e | e
    · subst e; simp only [Nat.add_zero]; omega
    · have := sorted3_lt h.sorted hj2 (i := k) (by omega)
      omega
  have hsp : l = l.take k ++ l.drop k := (List.take_append_drop k l).symm
  refine ⟨?_, fun i m nx => ?_⟩
  · have h0 := h.sorted
    unfold Sorted3 at h0 ⊢
    rw [hsp] at h0
    obtain ⟨h1, h2, h3⟩ := List.pairwise_append.1 h0
    refine List.pairwise_append.2 ⟨h1, List.pairwise_cons.2 ⟨fun x hx => hgt x hx, h2⟩, fun x hx y hy => ?_⟩
    rcases List.mem_cons.1 hy with rfl | hy
    · exact hlt x hx
    · exact h3 x hx y hy
  · unfold updP
    have hm : (i, m, nx) ∈ l ↔ (i, m, nx) ∈ l.take k ∨ (i, m, nx) ∈ l.drop k := by rw [← List.mem_append, List.take_append_drop]
    rw [List.mem_append, List.mem_cons]
    by_cases e : i = id
    · rw [if_pos e]
      constructor
      · rintro (h1 | h1 | h1)
        · have := hlt _ h1; simp only at this; omega
        · obtain ⟨-, rfl, rfl⟩ : i = id ∧ m = p.1 ∧ nx = p.2 + 1 := by simpa using h1
          simp
        · have := hgt _ h1; simp only at this; omega
      · intro h1
        have h2 := Option.some.inj h1
        right; left
        rw [h2, e]
        simp
    · rw [if_neg e, ← h.mem, hm]
      constructor
      · rintro (h1 | h1 | h1)
        · exact .inl h1
        · exact absurd (Prod.mk.inj h1).1 e
        · exact .inr h1
      · rintro (h1 | h1)
        · exact .inl h1
        · exact .inr (.inr h1)

/-- A list's peers changed, those of one number. -/
def chgL (u : Pr → Pr) (id : Int) (l : List Pr) : List Pr := l.map fun x => if x.1 = id then u x else x

/-- What an answer makes of a peer, in the document's words, and in the program's. -/
structure Says (u : Pr → Pr) (g : Int × Int → Option (Int × Int)) (id : Int) : Prop where
  num : ∀ x : Pr, (u x).1 = x.1
  same : ∀ m nx, 0 ≤ m → m < nx → match g (m, nx - 1) with | none => u (id, m, nx) = (id, m, nx) | some q => u (id, m, nx) = (id, q.1, q.2 + 1)

theorem Rel.changed {l : List Pr} {f : Int → Option (Int × Int)} (h : Rel l f) {u : Pr → Pr} {g : Int × Int → Option (Int × Int)} {id : Int} (hu : Says u g id) (hb : ∀ x ∈ l, 0 ≤ x.2.1 ∧ x.2.1 < x.2.2) : Rel (chgL u id l) (chg g f id).2 := by
  have hnum : ∀ x : Pr, (if x.1 = id then u x else x).1 = x.1 := fun x => by
    split
    · exact hu.num x
    · rfl
  have hsort : Sorted3 (chgL u id l) := by
    unfold Sorted3 chgL
    rw [List.pairwise_map]
    exact h.sorted.imp fun {a b} hab => by rw [hnum, hnum]; exact hab
  have hout : ∀ i m nx, i ≠ id → ((i, m, nx) ∈ chgL u id l ↔ (i, m, nx) ∈ l) := fun i m nx hi => by
    unfold chgL
    rw [List.mem_map]
    constructor
    · rintro ⟨x, hx, he⟩
      have h1 := congrArg Prod.fst he
      rw [hnum] at h1
      simp only at h1
      rw [if_neg (by rw [h1]; exact hi)] at he
      rw [← he]; exact hx
    · intro hx
      exact ⟨_, hx, if_neg hi⟩
  have hin : ∀ m nx, (id, m, nx) ∈ chgL u id l ↔ ∃ m0 nx0, (id, m0, nx0) ∈ l ∧ u (id, m0, nx0) = (id, m, nx) := fun m nx => by
    unfold chgL
    rw [List.mem_map]
    constructor
    · rintro ⟨x, hx, he⟩
      have h1 := congrArg Prod.fst he
      rw [hnum] at h1
      simp only at h1
      rw [if_pos h1] at he
      obtain ⟨i, m0, nx0⟩ := x
      simp only at h1
      subst h1
      exact ⟨m0, nx0, hx, he⟩
    · rintro ⟨m0, nx0, hx, he⟩
      exact ⟨_, hx, by rw [if_pos rfl]; exact he⟩
  refine ⟨hsort, fun i m nx => ?_⟩
  unfold chg
  cases hf : f id with
  | none =>
    simp only
    have hno : ∀ m nx, (id, m, nx) ∉ l := fun m nx hx => by rw [h.mem, hf] at hx; cases hx
    by_cases e : i = id
    · subst e
      rw [hin, hf]
      constructor
      · rintro ⟨m0, nx0, hx, -⟩
        exact absurd hx (hno _ _)
      · intro hx; cases hx
    · rw [hout i m nx e]
      exact h.mem i m nx
  | some p =>
    have hmem : (id, p.1, p.2 + 1) ∈ l := (h.mem _ _ _).2 (by rw [hf]; simp)
    have hbp := hb _ hmem
    have hsm := hu.same p.1 (p.2 + 1) hbp.1 hbp.2
    have hpp : (p.1, p.2 + 1 - 1) = p := by simp
    rw [hpp] at hsm
    have hun : ∀ m0 nx0, (id, m0, nx0) ∈ l → (m0, nx0) = (p.1, p.2 + 1) := fun m0 nx0 hx => by
      have := h.sorted.uniq hx hmem rfl
      exact (Prod.mk.inj this).2
    simp only
    cases hg : g p with
    | none =>
      rw [hg] at hsm
      simp only at hsm ⊢
      by_cases e : i = id
      · subst e
        rw [hin, hf]
        constructor
        · rintro ⟨m0, nx0, hx, he⟩
          obtain ⟨rfl, rfl⟩ := Prod.mk.inj (hun _ _ hx)
          rw [hsm] at he
          obtain ⟨-, rfl, rfl⟩ : i = i ∧ p.1 = m ∧ p.2 + 1 = nx := by simpa using he
          simp
        · intro hx
          have h2 := Option.some.inj hx
          exact ⟨_, _, hmem, by rw [hsm, h2]; simp⟩
      · rw [hout i m nx e]
        exact h.mem i m nx
    | some q =>
      rw [hg] at hsm
      simp only at hsm ⊢
      unfold updP
      by_cases e : i = id
      · subst e
        rw [hin, if_pos rfl]
        constructor
        · rintro ⟨m0, nx0, hx, he⟩
          obtain ⟨rfl, rfl⟩ := Prod.mk.inj (hun _ _ hx)
          rw [hsm] at he
          obtain ⟨-, rfl, rfl⟩ : i = i ∧ q.1 = m ∧ q.2 + 1 = nx := by simpa using he
          simp
        · intro hx
          have h2 := Option.some.inj hx
          exact ⟨_, _, hmem, by rw [hsm, h2]; simp⟩
      · rw [if_neg e, hout i m nx e]
        exact h.mem i m nx

/-- An Ack, of a peer as the document has it. -/
def ackU (index : Int) (x : Pr) : Pr := if index > x.2.1 then (x.1, index, max x.2.2 (index + 1)) else x
/-- A Back. -/
def backU (index hint : Int) (x : Pr) : Pr := if index = x.2.2 - 1 ∧ index > x.2.1 then (x.1, x.2.1, max (min index (max hint 0 + 1)) (x.2.1 + 1)) else x

theorem ack_says (index id : Int) : Says (ackU index) (ackP index) id := by
  refine ⟨fun x => ?_, fun m nx h0 h1 => ?_⟩
  · unfold ackU; split <;> rfl
  · unfold ackU ackP
    by_cases h : index ≤ m
    · rw [if_pos h]
      simp only
      rw [if_neg (by omega)]
    · rw [if_neg h]
      simp only
      rw [if_pos (by omega)]
      simp only [Prod.mk.injEq, true_and]
      omega

theorem back_says (index hint id : Int) : Says (backU index hint) (backP index hint) id := by
  refine ⟨fun x => ?_, fun m nx h0 h1 => ?_⟩
  · unfold backU; split <;> rfl
  · unfold backU backP
    by_cases h : index ≠ nx - 1 ∨ index ≤ m
    · rw [if_pos h]
      simp only
      rw [if_neg (by omega)]
    · rw [if_neg h]
      simp only
      rw [if_pos (by omega)]
      simp only [Prod.mk.injEq, true_and]
      omega
end Go.Proofs.Ytenpbcpdecnhmaa.M
