/- Package hard: Save. The document's examples of hard states, as law 4's statements begin with them. What stays true of a disk that has slots alone, through saves, stops and crashes. Hard states in a law's own memory, beside a row of states that it makes longer. The document's disk: one file turned; Sync. The document's disk: Sync. The document's disk: Cut. -/
import Derived.Test.YtgakcaobalfpjaaGreatDoorHS9
import Derived.Lib.SlBytesConst
import Derived.Test.YtgakcaobalfpjaaGreatDoorHS7
import Derived.Test.YtgakcaobalfpjaaGreatDoorHS5
import Derived.Test.YtgakcaobalfpjaaGreatDoorHS4
import Derived.Deep.LoopGhost
import Derived.StillTailTactics
/- Part: PHard6. -/
namespace Go.Proofs.YtgakcaobalfpjaaGreatDoor.M
open Go.RowKit Go.Maps
open D (Fl Dk)

/-- What keeps a disk's state, in a law's own memory. -/
structure HS (w : World) (X : Nat → Prop) (gd gh : Nat) (d : Dk) (has : Int × Int) (wr : World) : Prop where
  ds : DS w X gd d wr
  blk : wr.heap[gh]? = some (.cells #[.int .i64 has.1, .int .i64 has.2, .pointer (some ⟨gd, 0, none⟩)] 53)
  out : ¬ X gh
  new : w.heap.size ≤ gh

theorem HS.next {w wr w' : World} {X : Nat → Prop} {gd gh : Nat} {d : Dk} {has : Int × Int} (h : HS w X gd gh d has wr) (hb : Below wr.heap.size wr w') : HS w X gd gh d has w' :=
  ⟨h.ds.next hb, old_below h.blk hb, h.out, h.new⟩

theorem follows_one (s e : Int × Int) : followsAll s [e] = follows s e := by
  obtain ⟨st, sv⟩ := s
  obtain ⟨et, ev⟩ := e
  rw [Bool.eq_iff_iff]
  unfold followsAll isState may follows
  simp
  constructor
  · rintro ⟨⟨h1, h2⟩, h3⟩
    refine ⟨h1, h2, ?_⟩
    omega
  · rintro ⟨h1, h2, h3⟩
    refine ⟨⟨h1, h2⟩, ?_⟩
    omega

theorem slot_lt (L : List UInt8) : (slot L).1 < top := by
  unfold slot
  split
  · decide
  · split
    · decide
    · split
      · split
        · rename_i h; exact h.1
        · decide
      · decide

theorem newest_lt (fs : List Fl) : (newest fs).2.1 < top := by
  unfold newest
  split
  · decide
  · split
    · exact slot_lt _
    · exact slot_lt _

theorem RepSts.one {w : World} {s : Int × Int} {t : TypeId} {g : Nat} (hg : g = w.heap.size) :
    RepSts (w.alloc (.cells #[.int .i64 s.1, .int .i64 s.2] t)) (fun k => k = g) [s] (.slice (some ⟨g, 0, none⟩) 1 1) := by
  subst hg
  have h := fun j => cell_of_row _ w.heap.size j _ t _ (heap_alloc_new w (.cells #[.int .i64 s.1, .int .i64 s.2] t))
  refine .inr ⟨w.heap.size, 0, 1, rfl, rfl, Nat.le_refl _, by omega, fun i hi => ?_⟩
  obtain rfl : i = 0 := by simpa using hi
  exact ⟨h 0, h 1⟩

theorem DS.set {w wr : World} {X : Nat → Prop} {gd : Nat} {d : Dk} (h : DS w X gd d wr) {g j : Nat} {v : Value} (hg : w.heap.size ≤ g) (hX : ¬ X g) : DS w X gd d (wr.setCell ⟨g, j, none⟩ v) :=
  ⟨h.below.setCell hg v, h.own, ⟨h.dsk.1.same (fun _ h => h) fun k hk => Below.heap_setCell _ _ _ _ (fun e => hX (by rw [← show k = g from e]; exact hk)), fun k hk => by rw [World.size_setCell]; exact h.dsk.2 k hk⟩, h.well⟩

theorem heap_set2 {w : World} {g : Nat} {a b c x y : Value} {t : TypeId} (h : w.heap[g]? = some (.cells #[a, b, c] t)) :
    ((w.setCell ⟨g, 0, none⟩ x).setCell ⟨g, 1, none⟩ y).heap[g]? = some (.cells #[x, y, c] t) := by
  simp [World.setCell, Array.getElem?_modify, h]

/-- What Save leaves. -/
def SPost (w : World) (X : Nat → Prop) (gd gh : Nat) (wr : World) (d : Dk) (has s : Int × Int) (e : Ending) (w' : World) : Prop :=
  e = .returned (.int .i64 (save d has s).1) ∧ ∃ X', (∀ k, X' k → X k ∨ wr.heap.size ≤ k) ∧ HS w X' gd gh (save d has s).2 (if (save d has s).1 = 0 then s else has) w' ∧ Only (fun k => X k ∨ k = gh) wr w'

theorem sPost_of {w : World} {X : Nat → Prop} {gd gh : Nat} {wr : World} {d d' : Dk} {has s has' : Int × Int} {r : Int} {w' : World} {X' : Nat → Prop} (hs : save d has s = (r, d')) (hh : has' = if r = 0 then s else has) (hX : ∀ k, X' k → X k ∨ wr.heap.size ≤ k) (h : HS w X' gd gh d' has' w') (ho : Only (fun k => X k ∨ k = gh) wr w') :
    SPost w X gd gh wr d has s (.returned (.int .i64 r)) w' := by
  unfold SPost
  rw [hs]
  subst hh
  exact ⟨rfl, X', hX, h, ho⟩

set_option maxRecDepth 20000 in
set_option maxHeartbeats 6400000 in
theorem Save_any (d : Dk) (X : Nat → Prop) (gd gh : Nat) (has s : Int × Int) (w wr : World) (h : HS w X gd gh d has wr) (hu : D.used d.fs ≤ 1000000000) (hT : Hid (Tab w)) :
    Calls Tryz.prog 10 #[.pointer (some ⟨gh, 0, none⟩), .agg #[.int .i64 s.1, .int .i64 s.2]] wr (SPost w X gd gh wr d has s) := by
  obtain ⟨W, hW⟩ : ∃ W, W = wr.alloc (.cells #[.int .i64 s.1, .int .i64 s.2] 33) := ⟨_, rfl⟩
  have HBW : Hid (Below wr.heap.size wr W) := Lib.hid (by rw [hW]; exact below_alloc _ _)
  have hbox : W.heap[wr.heap.size]? = some (.cells #[.int .i64 s.1, .int .i64 s.2] 33) := by rw [hW]; exact heap_new _ _ _ rfl
  have HBOX := Lib.hid hbox
  have HH := Lib.hid h
  have hbk : W.heap[gh]? = _ := (h.next HBW.out).blk
  have HBK := Lib.hid hbk
  have HW := Lib.hid hW
  have HU := Lib.hid hu
  obtain ⟨st, sv⟩ := s
  obtain ⟨et, ev⟩ := has
  have HF : Hid (Calls Tryz.prog 36 #[.agg #[.int .i64 st, .int .i64 sv], .slice (some ⟨W.heap.size, 0, none⟩) 1 1] (W.alloc (.cells #[.int .i64 et, .int .i64 ev] 33)).drew fun r w' => r = .returned (.bool (follows (st, sv) (et, ev))) ∧ Below W.heap.size W w') := Lib.hid (by
    have := Follows_any (st, sv) [(et, ev)] (fun k => k = W.heap.size) _ (W.alloc (.cells #[.int .i64 et, .int .i64 ev] 33)).drew ((RepSts.one (w := W) (s := (et, ev)) (t := 33) rfl).same (fun _ h => h) fun _ _ => rfl) (fun k hk => by simp; omega)
    rw [follows_one] at this
    exact this.mono fun r w' h => ⟨h.1, (below_alloc W _).drew.trans (h.2.mono (by simp))⟩)
  obtain ⟨k0, k1, -, -, kz⟩ := block2 hbox
  obtain ⟨b0, b1, b2, -, -, -, bz⟩ := block3 hbk
  have hS : Below W.heap.size W W.drew := (Below.refl _ _).drew
  have q0 : ∀ w', Below W.heap.size W w' → w'.cell? ⟨wr.heap.size, 0, none⟩ = some (.int .i64 st) := fun w' hw' => (hw'.cell kz).trans k0
  have q1 : ∀ w', Below W.heap.size W w' → w'.cell? ⟨wr.heap.size, 1, none⟩ = some (.int .i64 sv) := fun w' hw' => (hw'.cell kz).trans k1
  have r0 : ∀ w', Below W.heap.size W w' → w'.cell? ⟨gh, 0, none⟩ = some (.int .i64 et) := fun w' hw' => (hw'.cell bz).trans b0
  have r1 : ∀ w', Below W.heap.size W w' → w'.cell? ⟨gh, 1, none⟩ = some (.int .i64 ev) := fun w' hw' => (hw'.cell bz).trans b1
  clear hW hbox h hu hbk k0 k1 b0 b1 b2
  go_enter Tryz.func10, Tryz.ntmps10
  go_wp2_with fail
  rw [← HW.out]
  refine wp_region_held (S := fun w' => Below W.heap.size W w') (by kernel_rfl) ?_
  refine H_take (i := 0) (v := ?_) rfl (by as_aux_lemma => kernel_rfl) (by as_aux_lemma => kernel_rfl) (by as_aux_lemma => kernel_rfl) (fun _ _ _ h => h) (by rfl) hS ?_ ?_
  rotate_left
  · intro w' hw'; go_simp; with_reducible rfl
  go_simp
  refine H_take (i := 1) (v := ?_) rfl (by as_aux_lemma => kernel_rfl) (by as_aux_lemma => kernel_rfl) (by as_aux_lemma => kernel_rfl) (fun _ _ _ h => h) (by rfl) hS ?_ ?_
  rotate_left
  · intro w' hw'; go_simp; with_reducible rfl
  go_simp
  refine H_take (i := 2) (v := ?_) rfl (by as_aux_lemma => kernel_rfl) (by as_aux_lemma => kernel_rfl) (by as_aux_lemma => kernel_rfl) (fun _ _ _ h => h) (by rfl) hS ?_ ?_
  rotate_left
  · intro w' hw'; go_simp; with_reducible rfl
  go_simp
  refine H_take (i := 3) (v := ?_) rfl (by as_aux_lemma => kernel_rfl) (by as_aux_lemma => kernel_rfl) (by as_aux_lemma => kernel_rfl) (fun _ _ _ h => h) (by rfl) hS ?_ ?_
  rotate_left
  · intro w' hw'; go_simp; with_reducible rfl
  go_simp
  refine H_take (i := 4) (v := ?_) rfl (by as_aux_lemma => kernel_rfl) (by as_aux_lemma => kernel_rfl) (by as_aux_lemma => kernel_rfl) (fun _ _ _ h => h) (by rfl) hS ?_ ?_
  rotate_left
  · intro w' hw'; go_simp; with_reducible rfl
  go_simp
  refine H_one (i := 5) (by as_aux_lemma => kernel_rfl) rfl (by rfl) ?_
  go_simp
  have hS2 : Below W.heap.size W (W.alloc (.cells #[.int .i64 et, .int .i64 ev] 33)).drew := (below_alloc W _).drew
  refine ⟨hS2, ?_⟩
  refine H_one (i := 6) (by as_aux_lemma => kernel_rfl) rfl (by rfl) ?_
  go_simp
  refine HF.out.mono ?_
  rintro e w2 ⟨rfl, hb2⟩
  refine ⟨hb2, ?_⟩
  obtain ⟨f, hf⟩ : ∃ f, f = follows (st, sv) (et, ev) := ⟨_, rfl⟩
  rw [← hf]
  have HFO := Lib.hid hf
  have HB2 : Hid (Below wr.heap.size wr w2) := Lib.hid (HBW.out.trans (hb2.mono HBW.out.size))
  have HX2 := Lib.hid (old_below HBOX.out hb2)
  have HK2 := Lib.hid (old_below HBK.out hb2)
  clear hf hS hS2
  cases f with
  | false =>
    refine H_take (i := 7) (v := ?_) rfl (by as_aux_lemma => kernel_rfl) (by as_aux_lemma => kernel_rfl) (by as_aux_lemma => kernel_rfl) (fun _ _ _ h => h) (by rfl) hb2 ?_ ?_
    rotate_left
    · intro w' hw'; go_simp; with_reducible rfl
    go_simp
    refine H_take (i := 8) (v := ?_) rfl (by as_aux_lemma => kernel_rfl) (by as_aux_lemma => kernel_rfl) (by as_aux_lemma => kernel_rfl) (fun _ _ _ h => h) (by rfl) hb2 ?_ ?_
    rotate_left
    · intro w' hw'; go_simp; with_reducible rfl
    go_simp
    refine H_skip (i := 9) rfl (by as_aux_lemma => kernel_rfl) (by as_aux_lemma => kernel_rfl) (by as_aux_lemma => kernel_rfl) (fun _ _ _ h => h) (by rfl) hb2 ?_
    go_simp
    refine H_skip (i := 10) rfl (by as_aux_lemma => kernel_rfl) (by as_aux_lemma => kernel_rfl) (by as_aux_lemma => kernel_rfl) (fun _ _ _ h => h) (by rfl) hb2 ?_
    go_simp
    refine H_skip (i := 11) rfl (by as_aux_lemma => kernel_rfl) (by as_aux_lemma => kernel_rfl) (by as_aux_lemma => kernel_rfl) (fun _ _ _ h => h) (by rfl) hb2 ?_
    go_simp
    refine H_take (i := 12) (v := ?_) rfl (by as_aux_lemma => kernel_rfl) (by as_aux_lemma => kernel_rfl) (by as_aux_lemma => kernel_rfl) (fun _ _ _ h => h) (by rfl) hb2 ?_ ?_
    rotate_left
    · intro w' hw'; go_simp; with_reducible rfl
    go_simp
    refine H_take (i := 13) (v := ?_) rfl (by as_aux_lemma => kernel_rfl) (by as_aux_lemma => kernel_rfl) (by as_aux_lemma => kernel_rfl) (fun _ _ _ h => h) (by rfl) hb2 ?_ ?_
    rotate_left
    · intro w' hw'; go_simp; with_reducible rfl
    go_simp
    refine H_skip (i := 14) rfl (by as_aux_lemma => kernel_rfl) (by as_aux_lemma => kernel_rfl) (by as_aux_lemma => kernel_rfl) (fun _ _ _ h => h) (by rfl) hb2 ?_
    go_simp
    refine H_skip (i := 15) rfl (by as_aux_lemma => kernel_rfl) (by as_aux_lemma => kernel_rfl) (by as_aux_lemma => kernel_rfl) (fun _ _ _ h => h) (by rfl) hb2 ?_
    go_simp
    refine H_skip (i := 16) rfl (by as_aux_lemma => kernel_rfl) (by as_aux_lemma => kernel_rfl) (by as_aux_lemma => kernel_rfl) (fun _ _ _ h => h) (by rfl) hb2 ?_
    go_simp
    refine H_take (i := 17) (v := ?_) rfl (by as_aux_lemma => kernel_rfl) (by as_aux_lemma => kernel_rfl) (by as_aux_lemma => kernel_rfl) (fun _ _ _ h => h) (by rfl) hb2 ?_ ?_
    rotate_left
    · intro w' hw'; go_simp; with_reducible rfl
    go_simp
    refine wpAnyH_done (by as_aux_lemma => kernel_rfl) ?_ _
    clear q0 q1 r0 r1 hb2
    have HE : Hid (save d (et, ev) (st, sv) = (2, d)) := Lib.hid (by unfold save; rw [if_pos (.inl HFO.out.symm)])
    go_wp2_with fail
    go_ret
    exact sPost_of HE.out rfl (fun k hk => .inl hk) (HH.out.next HB2.out) (Only.of_below HB2.out)
  | true =>
    by_cases h1 : (4611686018427387904 : Int) ≤ st
    · skip
      refine H_take (i := 7) (v := ?_) rfl (by as_aux_lemma => kernel_rfl) (by as_aux_lemma => kernel_rfl) (by as_aux_lemma => kernel_rfl) (fun _ _ _ h => h) (by rfl) hb2 ?_ ?_
      rotate_left
      · intro w' hw'; go_simp; with_reducible rfl
      go_simp
      refine H_take (i := 8) (v := ?_) rfl (by as_aux_lemma => kernel_rfl) (by as_aux_lemma => kernel_rfl) (by as_aux_lemma => kernel_rfl) (fun _ _ _ h => h) (by rfl) hb2 ?_ ?_
      rotate_left
      · intro w' hw'; go_simp; with_reducible rfl
      go_simp
      refine H_take (i := 9) (v := ?_) rfl (by as_aux_lemma => kernel_rfl) (by as_aux_lemma => kernel_rfl) (by as_aux_lemma => kernel_rfl) (fun _ _ _ h => h) (by rfl) hb2 ?_ ?_
      rotate_left
      · intro w' hw'; go_simp; with_reducible rfl
      go_simp
      refine H_take (i := 10) (v := ?_) rfl (by as_aux_lemma => kernel_rfl) (by as_aux_lemma => kernel_rfl) (by as_aux_lemma => kernel_rfl) (fun _ _ _ h => h) (by rfl) hb2 ?_ ?_
      rotate_left
      · intro w' hw'; go_simp; with_reducible rfl
      go_simp
      refine H_take (i := 11) (v := ?_) rfl (by as_aux_lemma => kernel_rfl) (by as_aux_lemma => kernel_rfl) (by as_aux_lemma => kernel_rfl) (fun _ _ _ h => h) (by rfl) hb2 ?_ ?_
      rotate_left
      · intro w' hw'; go_simp; with_reducible rfl
      go_simp
      refine H_take (i := 12) (v := ?_) rfl (by as_aux_lemma => kernel_rfl) (by as_aux_lemma => kernel_rfl) (by as_aux_lemma => kernel_rfl) (fun _ _ _ h => h) (by rfl) hb2 ?_ ?_
      rotate_left
      · intro w' hw'; go_simp; with_reducible rfl
      go_simp
      refine H_take (i := 13) (v := ?_) rfl (by as_aux_lemma => kernel_rfl) (by as_aux_lemma => kernel_rfl) (by as_aux_lemma => kernel_rfl) (fun _ _ _ h => h) (by rfl) hb2 ?_ ?_
      rotate_left
      · intro w' hw'; go_simp; with_reducible rfl
      go_simp
      refine H_skip (i := 14) rfl (by as_aux_lemma => kernel_rfl) (by as_aux_lemma => kernel_rfl) (by as_aux_lemma => kernel_rfl) (fun _ _ _ h => h) (by rfl) hb2 ?_
      go_simp
      refine H_skip (i := 15) rfl (by as_aux_lemma => kernel_rfl) (by as_aux_lemma => kernel_rfl) (by as_aux_lemma => kernel_rfl) (fun _ _ _ h => h) (by rfl) hb2 ?_
      go_simp
      refine H_skip (i := 16) rfl (by as_aux_lemma => kernel_rfl) (by as_aux_lemma => kernel_rfl) (by as_aux_lemma => kernel_rfl) (fun _ _ _ h => h) (by rfl) hb2 ?_
      go_simp
      refine H_take (i := 17) (v := ?_) rfl (by as_aux_lemma => kernel_rfl) (by as_aux_lemma => kernel_rfl) (by as_aux_lemma => kernel_rfl) (fun _ _ _ h => h) (by rfl) hb2 ?_ ?_
      rotate_left
      · intro w' hw'; go_simp; with_reducible rfl
      go_simp
      refine wpAnyH_done (by as_aux_lemma => kernel_rfl) ?_ _
      clear q0 q1 r0 r1 hb2
      have HE : Hid (save d (et, ev) (st, sv) = (2, d)) := Lib.hid (by unfold save top; rw [if_pos (.inr (.inl h1))])
      go_wp2_with fail
      go_ret
      exact sPost_of HE.out rfl (fun k hk => .inl hk) (HH.out.next HB2.out) (Only.of_below HB2.out)
    · have h1' : decide ((4611686018427387904 : Int) ≤ st) = false := by simp; omega
      by_cases h2 : (4611686018427387904 : Int) ≤ sv
      · skip
        refine H_take (i := 7) (v := ?_) rfl (by as_aux_lemma => kernel_rfl) (by as_aux_lemma => kernel_rfl) (by as_aux_lemma => kernel_rfl) (fun _ _ _ h => h) (by rfl) hb2 ?_ ?_
        rotate_left
        · intro w' hw'; go_simp; with_reducible rfl
        go_simp
        refine H_take (i := 8) (v := ?_) rfl (by as_aux_lemma => kernel_rfl) (by as_aux_lemma => kernel_rfl) (by as_aux_lemma => kernel_rfl) (fun _ _ _ h => h) (by rfl) hb2 ?_ ?_
        rotate_left
        · intro w' hw'; go_simp; with_reducible rfl
        go_simp
        refine H_take (i := 9) (v := ?_) rfl (by as_aux_lemma => kernel_rfl) (by as_aux_lemma => kernel_rfl) (by as_aux_lemma => kernel_rfl) (fun _ _ _ h => h) (by rfl) hb2 ?_ ?_
        rotate_left
        · intro w' hw'; go_simp; with_reducible rfl
        go_simp
        refine H_take (i := 10) (v := ?_) rfl (by as_aux_lemma => kernel_rfl) (by as_aux_lemma => kernel_rfl) (by as_aux_lemma => kernel_rfl) (fun _ _ _ h => h) (by rfl) hb2 ?_ ?_
        rotate_left
        · intro w' hw'; go_simp; with_reducible rfl
        go_simp
        refine H_take (i := 11) (v := ?_) rfl (by as_aux_lemma => kernel_rfl) (by as_aux_lemma => kernel_rfl) (by as_aux_lemma => kernel_rfl) (fun _ _ _ h => h) (by rfl) hb2 ?_ ?_
        rotate_left
        · intro w' hw'; go_simp; with_reducible rfl
        go_simp
        refine H_take (i := 12) (v := ?_) rfl (by as_aux_lemma => kernel_rfl) (by as_aux_lemma => kernel_rfl) (by as_aux_lemma => kernel_rfl) (fun _ _ _ h => h) (by rfl) hb2 ?_ ?_
        rotate_left
        · intro w' hw'; go_simp; with_reducible rfl
        go_simp
        refine H_take (i := 13) (v := ?_) rfl (by as_aux_lemma => kernel_rfl) (by as_aux_lemma => kernel_rfl) (by as_aux_lemma => kernel_rfl) (fun _ _ _ h => h) (by rfl) hb2 ?_ ?_
        rotate_left
        · intro w' hw'; go_simp; with_reducible rfl
        go_simp
        refine H_take (i := 14) (v := ?_) rfl (by as_aux_lemma => kernel_rfl) (by as_aux_lemma => kernel_rfl) (by as_aux_lemma => kernel_rfl) (fun _ _ _ h => h) (by rfl) hb2 ?_ ?_
        rotate_left
        · intro w' hw'; go_simp; with_reducible rfl
        go_simp
        refine H_take (i := 15) (v := ?_) rfl (by as_aux_lemma => kernel_rfl) (by as_aux_lemma => kernel_rfl) (by as_aux_lemma => kernel_rfl) (fun _ _ _ h => h) (by rfl) hb2 ?_ ?_
        rotate_left
        · intro w' hw'; go_simp; with_reducible rfl
        go_simp
        refine H_take (i := 16) (v := ?_) rfl (by as_aux_lemma => kernel_rfl) (by as_aux_lemma => kernel_rfl) (by as_aux_lemma => kernel_rfl) (fun _ _ _ h => h) (by rfl) hb2 ?_ ?_
        rotate_left
        · intro w' hw'; go_simp; with_reducible rfl
        go_simp
        refine H_take (i := 17) (v := ?_) rfl (by as_aux_lemma => kernel_rfl) (by as_aux_lemma => kernel_rfl) (by as_aux_lemma => kernel_rfl) (fun _ _ _ h => h) (by rfl) hb2 ?_ ?_
        rotate_left
        · intro w' hw'; go_simp; with_reducible rfl
        go_simp
        refine wpAnyH_done (by as_aux_lemma => kernel_rfl) ?_ _
        clear q0 q1 r0 r1 hb2
        have HE : Hid (save d (et, ev) (st, sv) = (2, d)) := Lib.hid (by unfold save top; rw [if_pos (.inr (.inr h2))])
        go_wp2_with fail
        go_ret
        exact sPost_of HE.out rfl (fun k hk => .inl hk) (HH.out.next HB2.out) (Only.of_below HB2.out)
      · have h2' : decide ((4611686018427387904 : Int) ≤ sv) = false := by simp; omega
        refine H_take (i := 7) (v := ?_) rfl (by as_aux_lemma => kernel_rfl) (by as_aux_lemma => kernel_rfl) (by as_aux_lemma => kernel_rfl) (fun _ _ _ h => h) (by rfl) hb2 ?_ ?_
        rotate_left
        · intro w' hw'; go_simp; with_reducible rfl
        go_simp
        refine H_take (i := 8) (v := ?_) rfl (by as_aux_lemma => kernel_rfl) (by as_aux_lemma => kernel_rfl) (by as_aux_lemma => kernel_rfl) (fun _ _ _ h => h) (by rfl) hb2 ?_ ?_
        rotate_left
        · intro w' hw'; go_simp; with_reducible rfl
        go_simp
        refine H_take (i := 9) (v := ?_) rfl (by as_aux_lemma => kernel_rfl) (by as_aux_lemma => kernel_rfl) (by as_aux_lemma => kernel_rfl) (fun _ _ _ h => h) (by rfl) hb2 ?_ ?_
        rotate_left
        · intro w' hw'; go_simp; with_reducible rfl
        go_simp
        refine H_take (i := 10) (v := ?_) rfl (by as_aux_lemma => kernel_rfl) (by as_aux_lemma => kernel_rfl) (by as_aux_lemma => kernel_rfl) (fun _ _ _ h => h) (by rfl) hb2 ?_ ?_
        rotate_left
        · intro w' hw'; go_simp; with_reducible rfl
        go_simp
        refine H_take (i := 11) (v := ?_) rfl (by as_aux_lemma => kernel_rfl) (by as_aux_lemma => kernel_rfl) (by as_aux_lemma => kernel_rfl) (fun _ _ _ h => h) (by rfl) hb2 ?_ ?_
        rotate_left
        · intro w' hw'; go_simp; with_reducible rfl
        go_simp
        refine H_take (i := 12) (v := ?_) rfl (by as_aux_lemma => kernel_rfl) (by as_aux_lemma => kernel_rfl) (by as_aux_lemma => kernel_rfl) (fun _ _ _ h => h) (by rfl) hb2 ?_ ?_
        rotate_left
        · intro w' hw'; go_simp; with_reducible rfl
        go_simp
        refine H_take (i := 13) (v := ?_) rfl (by as_aux_lemma => kernel_rfl) (by as_aux_lemma => kernel_rfl) (by as_aux_lemma => kernel_rfl) (fun _ _ _ h => h) (by rfl) hb2 ?_ ?_
        rotate_left
        · intro w' hw'; go_simp; with_reducible rfl
        go_simp
        refine H_take (i := 14) (v := ?_) rfl (by as_aux_lemma => kernel_rfl) (by as_aux_lemma => kernel_rfl) (by as_aux_lemma => kernel_rfl) (fun _ _ _ h => h) (by rfl) hb2 ?_ ?_
        rotate_left
        · intro w' hw'; go_simp; with_reducible rfl
        go_simp
        refine H_take (i := 15) (v := ?_) rfl (by as_aux_lemma => kernel_rfl) (by as_aux_lemma => kernel_rfl) (by as_aux_lemma => kernel_rfl) (fun _ _ _ h => h) (by rfl) hb2 ?_ ?_
        rotate_left
        · intro w' hw'; go_simp; with_reducible rfl
        go_simp
        refine H_take (i := 16) (v := ?_) rfl (by as_aux_lemma => kernel_rfl) (by as_aux_lemma => kernel_rfl) (by as_aux_lemma => kernel_rfl) (fun _ _ _ h => h) (by rfl) hb2 ?_ ?_
        rotate_left
        · intro w' hw'; go_simp; with_reducible rfl
        go_simp
        refine H_take (i := 17) (v := ?_) rfl (by as_aux_lemma => kernel_rfl) (by as_aux_lemma => kernel_rfl) (by as_aux_lemma => kernel_rfl) (fun _ _ _ h => h) (by rfl) hb2 ?_ ?_
        rotate_left
        · intro w' hw'; go_simp; with_reducible rfl
        go_simp
        refine wpAnyH_done (by as_aux_lemma => kernel_rfl) ?_ _
        clear q0 q1 r0 r1 hb2 kz bz
        go_wp2_with fail
        obtain ⟨k0, k1, -, -, kz⟩ := block2 HX2.out
        obtain ⟨b0, b1, b2, -, -, -, bz⟩ := block3 HK2.out
        have q0 : ∀ w', Below w2.heap.size w2 w' → w'.cell? ⟨wr.heap.size, 0, none⟩ = some (.int .i64 st) := fun w' hw' => (hw'.cell kz).trans k0
        have q1 : ∀ w', Below w2.heap.size w2 w' → w'.cell? ⟨wr.heap.size, 1, none⟩ = some (.int .i64 sv) := fun w' hw' => (hw'.cell kz).trans k1
        have r0 : ∀ w', Below w2.heap.size w2 w' → w'.cell? ⟨gh, 0, none⟩ = some (.int .i64 et) := fun w' hw' => (hw'.cell bz).trans b0
        have r1 : ∀ w', Below w2.heap.size w2 w' → w'.cell? ⟨gh, 1, none⟩ = some (.int .i64 ev) := fun w' hw' => (hw'.cell bz).trans b1
        obtain ⟨eqb, heqb⟩ : ∃ eqb, eqb = decide ((st, sv) = (et, ev)) := ⟨_, rfl⟩
        have heq : ∀ w' : World, (Op.equalIn 10000 33 (.agg #[.int .i64 st, .int .i64 sv]) (.agg #[.int .i64 et, .int .i64 ev])).run Tryz.prog w' = .ok eqb w' := fun w' => by
          rw [heqb]
          clear heqb
          go_simp
          by_cases a : st = et <;> by_cases b : sv = ev <;> simp [a, b]
        have HEQ := Lib.hid heqb
        clear heqb k0 k1 b0 b1 b2
        have hS : Below w2.heap.size w2 w2.drew := (Below.refl _ _).drew
        refine wp_region_held (S := fun w' => Below w2.heap.size w2 w') (by kernel_rfl) ?_
        refine H_take (i := 0) (v := ?_) rfl (by as_aux_lemma => kernel_rfl) (by as_aux_lemma => kernel_rfl) (by as_aux_lemma => kernel_rfl) (fun _ _ _ h => h) (by rfl) hS ?_ ?_
        rotate_left
        · intro w' hw'; go_simp; with_reducible rfl
        go_simp
        refine H_take (i := 1) (v := ?_) rfl (by as_aux_lemma => kernel_rfl) (by as_aux_lemma => kernel_rfl) (by as_aux_lemma => kernel_rfl) (fun _ _ _ h => h) (by rfl) hS ?_ ?_
        rotate_left
        · intro w' hw'; go_simp; with_reducible rfl
        go_simp
        refine H_take (i := 2) (v := ?_) rfl (by as_aux_lemma => kernel_rfl) (by as_aux_lemma => kernel_rfl) (by as_aux_lemma => kernel_rfl) (fun _ _ _ h => h) (by rfl) hS ?_ ?_
        rotate_left
        · intro w' hw'; go_simp; with_reducible rfl
        go_simp
        refine H_take (i := 3) (v := ?_) rfl (by as_aux_lemma => kernel_rfl) (by as_aux_lemma => kernel_rfl) (by as_aux_lemma => kernel_rfl) (fun _ _ _ h => h) (by rfl) hS ?_ ?_
        rotate_left
        · intro w' hw'; go_simp; with_reducible rfl
        go_simp
        refine H_take (i := 4) (v := ?_) rfl (by as_aux_lemma => kernel_rfl) (by as_aux_lemma => kernel_rfl) (by as_aux_lemma => kernel_rfl) (fun _ _ _ h => h) (by rfl) hS ?_ ?_
        rotate_left
        · intro w' hw'; go_simp; with_reducible rfl
        go_simp
        refine H_take (i := 5) (v := ?_) rfl (by as_aux_lemma => kernel_rfl) (by as_aux_lemma => kernel_rfl) (by as_aux_lemma => kernel_rfl) (fun _ _ _ h => h) (by rfl) hS ?_ ?_
        rotate_left
        · intro w' hw'; go_simp; with_reducible rfl
        go_simp
        refine wpAnyH_done (by as_aux_lemma => kernel_rfl) ?_ _
        clear q0 q1 r0 r1 hS heq
        cases eqb with
        | true =>
          have HE : Hid (save d (et, ev) (st, sv) = (0, d)) := Lib.hid (by
            have e := of_decide_eq_true HEQ.out.symm
            unfold save
            rw [if_neg (by rw [← HFO.out]; unfold top; simp; omega), if_pos e])
          have HSE : Hid ((st, sv) = (et, ev)) := Lib.hid (of_decide_eq_true HEQ.out.symm)
          go_wp2_with fail
          go_ret
          exact sPost_of (has' := (et, ev)) HE.out (by rw [if_pos rfl, HSE.out]) (fun k hk => .inl hk) (HH.out.next (HB2.out.drew)) (Only.of_below HB2.out.drew)
        | false =>
          have HE : Hid (save d (et, ev) (st, sv) = saveF d (other (newest d.fs).1) (slotForm ((newest d.fs).2.1 + 1) (st, sv))) := Lib.hid (by
            have e := of_decide_eq_false HEQ.out.symm
            unfold save
            rw [if_neg (by rw [← HFO.out]; unfold top; simp; omega), if_neg e])
          have HST : Hid (0 ≤ st ∧ -1 ≤ sv) := Lib.hid (by
            have h3 := HFO.out
            unfold follows at h3
            have h4 := of_decide_eq_true h3.symm
            exact ⟨h4.1, h4.2.1⟩)
          have HTP : Hid (st < 4611686018427387904 ∧ sv < 4611686018427387904) := Lib.hid (by omega)
          obtain ⟨b0, b1, b2, -, -, -, bz⟩ := block3 HK2.out
          clear h1 h2 h1' h2'
          go_wp2_with fail
          have HH2 : Hid (HS w X gd gh d (et, ev) w2.drew) := Lib.hid (HH.out.next HB2.out.drew)
          refine (slots_any d X gd w2.drew HH2.out.ds.dsk HH2.out.ds.well.1.2.1 (by have := HU.out; omega) (HH2.out.ds.tab hT)).mono ?_
          rintro e w4 ⟨rfl, hb4⟩
          have HH4 : Hid (HS w X gd gh d (et, ev) w4) := Lib.hid (HH2.out.next hb4)
          have hb24 : Below w2.heap.size w2 w4 := (Below.refl _ _).drew.trans hb4
          have HX4 := Lib.hid (old_below HX2.out hb24)
          have HB4 : Hid (Below wr.heap.size wr w4) := Lib.hid (HB2.out.trans (hb24.mono HB2.out.size))
          have hnl := newest_lt d.fs
          obtain ⟨n, hn⟩ : ∃ n, n = newest d.fs := ⟨_, rfl⟩
          rw [← hn] at HE hnl ⊢
          clear b0 b1 b2 bz hb4 hb24 hn
          obtain ⟨na, nc, nt, nv⟩ := n
          simp only [slotV] at HE hnl ⊢
          obtain ⟨onm, honm⟩ : ∃ onm, onm = other na := ⟨_, rfl⟩
          rw [← honm] at HE ⊢
          have HON : Hid (onm.size ≤ 9223372036854775807) := Lib.hid (by rw [honm]; unfold other; split <;> decide)
          clear honm
          have hnc : (nc : Int) < 4611686018427387904 := by unfold top at hnl; omega
          clear hnl
          obtain ⟨t, rfl⟩ := Int.eq_ofNat_of_zero_le HST.out.1
          obtain ⟨v, rfl⟩ : ∃ v : Nat, sv = (v : Int) - 1 := ⟨(sv + 1).toNat, by have := HST.out.2; omega⟩
          go_wp2_with fail
          obtain ⟨W5, hW5⟩ : ∃ W5, W5 = w4.alloc (.cells #[.int .i64 (nc : Int), .int .i64 nt, .int .i64 nv] 87) := ⟨_, rfl⟩
          have hb5 : Below w4.heap.size w4 W5 := by rw [hW5]; exact below_alloc _ _
          have hx5 : W5.heap[w4.heap.size]? = some (.cells #[.int .i64 (nc : Int), .int .i64 nt, .int .i64 nv] 87) := by rw [hW5]; exact heap_new _ _ _ rfl
          rw [← hW5]
          have HH5 : Hid (HS w X gd gh d (_, _) W5) := Lib.hid (HH4.out.next hb5)
          have HX5 := Lib.hid (old_below HX4.out hb5)
          have HB5 : Hid (Below wr.heap.size wr W5) := Lib.hid (HB4.out.trans (hb5.mono HB4.out.size))
          obtain ⟨k0, k1, -, -, kz⟩ := block2 HX5.out
          obtain ⟨b0, b1, b2, -, -, -, bz⟩ := block3 HH5.out.blk
          obtain ⟨n0, n1, n2, -, -, -, nz⟩ := block3 hx5
          have hXk : ¬ X wr.heap.size := fun h => by have := HH.out.ds.lt _ h; omega
          have hXn : ¬ X w4.heap.size := fun h => by have := HH4.out.ds.lt _ h; omega
          have hXg := HH.out.out
          have oc : ∀ (w' : World) (g j : Nat) (x : Value), Only X W5 w' → g < W5.heap.size → ¬ X g → W5.cell? ⟨g, j, none⟩ = some x → w'.cell? ⟨g, j, none⟩ = some x := fun w' g j x ho hg hn hx => (World.cell?_of_block (a := ⟨g, j, none⟩) (ho.block g hg hn)).trans hx
          have q0 : ∀ w', Only X W5 w' → w'.cell? ⟨wr.heap.size, 0, none⟩ = some (.int .i64 (t : Int)) := fun w' hw' => oc w' _ _ _ hw' kz hXk k0
          have q1 : ∀ w', Only X W5 w' → w'.cell? ⟨wr.heap.size, 1, none⟩ = some (.int .i64 ((v : Int) - 1)) := fun w' hw' => oc w' _ _ _ hw' kz hXk k1
          have r2 : ∀ w', Only X W5 w' → w'.cell? ⟨gh, 2, none⟩ = some (.pointer (some ⟨gd, 0, none⟩)) := fun w' hw' => oc w' _ _ _ hw' bz hXg b2
          have p0 : ∀ w', Only X W5 w' → w'.cell? ⟨w4.heap.size, 0, none⟩ = some (.int .i64 (nc : Int)) := fun w' hw' => oc w' _ _ _ hw' nz hXn n0
          have hS : Only X W5 W5.drew := Only.of_below (Below.refl _ _).drew
          clear hW5 hb5 hx5 k0 k1 b0 b1 b2 n0 n1 n2 oc
          refine wp_region_held (S := fun w' => Only X W5 w') (by kernel_rfl) ?_
          refine H_take (i := 0) (v := ?_) rfl (by as_aux_lemma => kernel_rfl) (by as_aux_lemma => kernel_rfl) (by as_aux_lemma => kernel_rfl) (fun _ _ _ h => h) (by rfl) hS ?_ ?_
          rotate_left
          · intro w' hw'; go_simp; with_reducible rfl
          go_simp
          refine H_take (i := 1) (v := ?_) rfl (by as_aux_lemma => kernel_rfl) (by as_aux_lemma => kernel_rfl) (by as_aux_lemma => kernel_rfl) (fun _ _ _ h => h) (by rfl) hS ?_ ?_
          rotate_left
          · intro w' hw'; go_simp; with_reducible rfl
          go_simp
          refine H_take (i := 2) (v := ?_) rfl (by as_aux_lemma => kernel_rfl) (by as_aux_lemma => kernel_rfl) (by as_aux_lemma => kernel_rfl) (fun _ _ _ h => h) (by rfl) hS ?_ ?_
          rotate_left
          · intro w' hw'; go_simp; with_reducible rfl
          go_simp
          refine H_take (i := 3) (v := ?_) rfl (by as_aux_lemma => kernel_rfl) (by as_aux_lemma => kernel_rfl) (by as_aux_lemma => kernel_rfl) (fun _ _ _ h => h) (by rfl) hS ?_ ?_
          rotate_left
          · intro w' hw'; go_simp; with_reducible rfl
          go_simp
          refine H_take (i := 4) (v := ?_) rfl (by as_aux_lemma => kernel_rfl) (by as_aux_lemma => kernel_rfl) (by as_aux_lemma => kernel_rfl) (fun _ _ _ h => h) (by rfl) hS ?_ ?_
          rotate_left
          · intro w' hw'; go_simp; with_reducible rfl
          go_simp
          refine H_take (i := 5) (v := ?_) rfl (by as_aux_lemma => kernel_rfl) (by as_aux_lemma => kernel_rfl) (by as_aux_lemma => kernel_rfl) (fun _ _ _ h => h) (by rfl) hS ?_ ?_
          rotate_left
          · intro w' hw'; go_simp; with_reducible rfl
          go_simp
          refine H_take (i := 6) (v := ?_) rfl (by as_aux_lemma => kernel_rfl) (by as_aux_lemma => kernel_rfl) (by as_aux_lemma => kernel_rfl) (fun _ _ _ h => h) (by rfl) hS ?_ ?_
          rotate_left
          · intro w' hw'; go_simp; with_reducible rfl
          go_simp
          refine H_take (i := 7) (v := ?_) rfl (by as_aux_lemma => kernel_rfl) (by as_aux_lemma => kernel_rfl) (by as_aux_lemma => kernel_rfl) (fun _ _ _ h => h) (by rfl) hS ?_ ?_
          rotate_left
          · intro w' hw'; go_simp; with_reducible rfl
          go_simp
          refine H_take (i := 8) (v := ?_) rfl (by as_aux_lemma => kernel_rfl) (by as_aux_lemma => kernel_rfl) (by as_aux_lemma => kernel_rfl) (fun _ _ _ h => h) (by rfl) hS ?_ ?_
          rotate_left
          · intro w' hw'; go_simp; with_reducible rfl
          go_simp
          refine H_take (i := 9) (v := ?_) rfl (by as_aux_lemma => kernel_rfl) (by as_aux_lemma => kernel_rfl) (by as_aux_lemma => kernel_rfl) (fun _ _ _ h => h) (by rfl) hS ?_ ?_
          rotate_left
          · intro w' hw'; go_simp; with_reducible rfl
          go_simp
          refine H_one (i := 10) (by as_aux_lemma => kernel_rfl) rfl (by rfl) ?_
          go_simp
          have hwa := write_any d X gd onm (nc + 1) t v w W5.drew (HH5.out.ds.next (Below.refl _ _).drew) HON.out (by omega) (by have := HTP.out; omega) (by have := HTP.out; omega) HU.out hT
          rw [← HE.out, show ((nc + 1 : Nat) : Int) = (nc : Int) + 1 by simp] at hwa
          have hwrap : IntKind.i64.wrap ((nc : Int) + 1) = (nc : Int) + 1 := IntWalk.i64_in _ (by omega)
          rw [hwrap]
          refine hwa.mono ?_
          clear hwa hwrap
          rintro e w6 ⟨rfl, ho6, X6, hx6, h6⟩
          have hS6 : Only X W5 w6 := ⟨ho6.os, ho6.tape, ho6.output, ho6.size, ho6.block⟩
          refine ⟨hS6, ?_⟩
          obtain ⟨r, hr⟩ : ∃ r, r = save d (et, ev) ((t : Int), (v : Int) - 1) := ⟨_, rfl⟩
          rw [← hr] at h6 ⊢
          have HR := Lib.hid hr
          clear hr
          obtain ⟨r1, r2'⟩ := r
          have HO6 := Lib.hid hS6
          have HD6 := Lib.hid h6
          have HX6 : Hid (∀ k, X6 k → X k ∨ W5.heap.size ≤ k) := Lib.hid hx6
          clear h6 hx6 ho6
          simp only
          refine H_take (i := 11) (v := ?_) rfl (by as_aux_lemma => kernel_rfl) (by as_aux_lemma => kernel_rfl) (by as_aux_lemma => kernel_rfl) (fun _ _ _ h => h) (by rfl) hS6 ?_ ?_
          rotate_left
          · intro w' hw'; go_simp; with_reducible rfl
          go_simp
          refine wpAnyH_done (by as_aux_lemma => kernel_rfl) ?_ _
          have hg5 : gh < W5.heap.size := lt_of_heap HH5.out.blk
          have hr5 : wr.heap.size < W5.heap.size := lt_of_heap HX5.out
          have hX6g : ¬ X6 gh := fun h => by
            rcases HX6.out gh h with h | h
            · exact HH.out.out h
            · omega
          have HXX : Hid (∀ k, X6 k → X k ∨ wr.heap.size ≤ k) := Lib.hid fun k hk => by
            rcases HX6.out k hk with h | h
            · exact .inl h
            · exact .inr (by omega)
          have hbk6 : w6.heap[gh]? = some (.cells #[.int .i64 et, .int .i64 ev, .pointer (some ⟨gd, 0, none⟩)] 53) := (HO6.out.block gh hg5 HH.out.out).trans HH5.out.blk
          have hbx6 : w6.heap[wr.heap.size]? = some (.cells #[.int .i64 (t : Int), .int .i64 ((v : Int) - 1)] 33) := (HO6.out.block _ hr5 hXk).trans HX5.out
          have HK6 := Lib.hid hbk6
          clear q0 q1 r2 p0 hS hS6 kz bz nz hXk hXn hXg hg5 hr5
          by_cases hr0 : r1 = 0
          · subst hr0
            obtain ⟨k0, k1, -, -, kz⟩ := block2 hbx6
            obtain ⟨b0, b1, b2, bf0, bf1, bf2, bz⟩ := block3 hbk6
            clear hbk6 hbx6
            have HX6G := Lib.hid hX6g
            clear hX6g
            go_wp2_with fail
            go_ret
            refine sPost_of (has' := ((t : Int), (v : Int) - 1)) HR.out.symm (by rw [if_pos rfl]) HXX.out ⟨(HD6.out.set HH.out.new HX6G.out).set HH.out.new HX6G.out, ?_, HX6G.out, HH.out.new⟩ ?_
            · exact heap_set2 HK6.out
            · exact (((Only.of_below HB5.out).thn (fun k hk => .inl hk) HO6.out).mono (fun k hk => .inl hk)).set (.inl (.inr rfl)) _ |>.set (.inl (.inr rfl)) _
          · have q1 : (r1 != 0) = true := by simpa using hr0
            have HR0 := Lib.hid hr0
            clear hr0 hbk6 hbx6
            have HX6G := Lib.hid hX6g
            clear hX6g
            go_wp2_with fail
            go_ret
            exact sPost_of (has' := (et, ev)) HR.out.symm (by rw [if_neg HR0.out]) HXX.out ⟨HD6.out, HK6.out, HX6G.out, HH.out.new⟩ (((Only.of_below HB5.out).thn (fun k hk => .inl hk) HO6.out).mono (fun k hk => .inl hk))
end Go.Proofs.YtgakcaobalfpjaaGreatDoor.M

/- Part: HardLaw. -/
namespace Go.Proofs.YtgakcaobalfpjaaGreatDoor.M
open Go.RowKit Go.Maps
open D (Fl Dk)

def y1 : Dk := fresh 1000
def y2 : Dk := (save y1 (0, -1) (1, 2)).2
def y3 : Dk := (save y2 (1, 2) (2, -1)).2
def y4 : Dk := (save y3 (2, -1) (2, 0)).2
def y5 : Dk := (save (D.stop y4 1) (2, 0) (3, 0)).2
def y6 : Dk := (D.crash y5 []).2

theorem ey_0 : (newest y1.fs).2.2 = (0, -1) ∧ D.used y1.fs = 0 := by decide +kernel
theorem ey_1 : (save y1 (0, -1) (1, 2)).1 = 0 ∧ D.used y2.fs ≤ 1000 := by decide +kernel
theorem ey_2 : (save y2 (1, 2) (2, -1)).1 = 0 ∧ D.used y3.fs ≤ 1000 := by decide +kernel
theorem ey_3 : (save y3 (2, -1) (2, 0)).1 = 0 ∧ D.used y4.fs ≤ 1000 := by decide +kernel
theorem ey_4 : (save (D.stop y4 1) (2, 0) (3, 0)).1 = 32 ∧ D.used y5.fs ≤ 1000 := by decide +kernel
theorem ey_5 : (newest y6.fs).2.2 = (2, 0) ∧ D.used y6.fs ≤ 1000 := by decide +kernel
theorem ey_b : save y2 (1, 2) (1, 3) = (2, y2) := by
  unfold save; rw [if_pos (.inl (by decide))]
theorem ey_c : save y2 (1, 2) (0, -1) = (2, y2) := by
  unfold save; rw [if_pos (.inl (by decide))]

set_option maxRecDepth 20000 in
set_option maxHeartbeats 1600000 in
theorem made_any (n : Int) (w : World) (h0 : 0 ≤ n) (h1 : n ≤ 9223372036854775807) :
    Calls Tryz.prog 7 #[.int .i64 n] w fun e w' => ∃ gd gr X, e = .returned (.tuple #[.pointer (some ⟨gd, 0, none⟩), .pointer (some ⟨gr, 0, none⟩)]) ∧ DS w X gd (fresh n) w' ∧
      w.heap.size ≤ gr ∧ ¬ X gr ∧ w'.heap[gr]? = some (.cells #[.int .i64 n, .slice none 0 0, .bool false, .int .i64 0] 80) := by
  go_enter Tryz.func7, Tryz.ntmps7
  go_wp2_with fail
  refine (New_any n w h0).mono ?_
  rintro e w1 ⟨rfl, hb1, hz1, hd1⟩
  have HD : Hid (DS w (fun k => w.heap.size ≤ k ∧ k < w.heap.size + 2) (w.heap.size + 1) (fresh n) w1) := Lib.hid ⟨hb1, fun k hk => hk.1, ⟨hd1, fun k hk => by omega⟩, fresh_well h0 h1⟩
  have HZ := Lib.hid hz1
  clear hb1 hd1 hz1
  go_wp2_with fail
  go_ret2
  refine ⟨w.heap.size + 1, w1.heap.size, _, rfl, HD.out.alloc _, by have := HZ.out; omega, fun h => by have := HZ.out; omega, heap_new _ _ _ rfl⟩

theorem DStop {w wr : World} {X : Nat → Prop} {gd : Nat} {d : Dk} (h : DS w X gd d wr) (n : Int) (hn : -9223372036854775808 ≤ n ∧ n ≤ 9223372036854775807) :
    Calls Tryz.prog 11 #[.pointer (some ⟨gd, 0, none⟩), .int .i64 n] wr fun e w' => e = .returned (.tuple #[]) ∧ DS w X gd (D.stop d n) w' ∧ Only X wr w' ∧ w'.heap.size = wr.heap.size :=
  (PStop_any d X gd wr n h.dsk.1 hn).mono fun e w' ⟨he, ho, hp, hz⟩ => ⟨he, ⟨⟨ho.os.trans h.below.os, ho.tape.trans h.below.tape, ho.output.trans h.below.output, Nat.le_trans h.below.size ho.size, fun k hk => by
    rw [ho.block k (Nat.lt_of_lt_of_le hk h.below.size) fun hx => by have := h.own k hx; omega]
    exact h.below.block k hk⟩, h.own, ⟨hp, fun k hk => by rw [hz]; exact h.lt k hk⟩, stop_well h.well hn.2⟩, ho, hz⟩

theorem HS.stop {w wr : World} {X : Nat → Prop} {gd gh : Nat} {d : Dk} {has : Int × Int} (h : HS w X gd gh d has wr) (n : Int) (hn : -9223372036854775808 ≤ n ∧ n ≤ 9223372036854775807) :
    Calls Tryz.prog 11 #[.pointer (some ⟨gd, 0, none⟩), .int .i64 n] wr fun e w' => e = .returned (.tuple #[]) ∧ HS w X gd gh (D.stop d n) has w' ∧ Only X wr w' ∧ w'.heap.size = wr.heap.size :=
  (DStop h.ds n hn).mono fun e w' ⟨he, hd, ho, hz⟩ => ⟨he, ⟨hd, (ho.block _ (lt_of_heap h.blk) h.out).trans h.blk, h.out, h.new⟩, ho, hz⟩

theorem HS.crash {w wr : World} {X : Nat → Prop} {gd gh : Nat} {d : Dk} {has : Int × Int} (h : HS w X gd gh d has wr) (ks : List Int) (F : Nat → Prop) (vk : Value) (hv : RepI wr F ks vk) (hF : ∀ k, F k → k < wr.heap.size ∧ ¬ X k) :
    Calls Tryz.prog 13 #[.pointer (some ⟨gd, 0, none⟩), vk] wr fun e w' => e = .returned (.int .i64 (((D.crash d ks).1 : Nat) : Int)) ∧ ∃ X', (∀ k, X' k → X k ∨ wr.heap.size ≤ k) ∧ HS w X' gd gh (D.crash d ks).2 has w' ∧ Only X wr w' :=
  (DCrash h.ds ks F vk hv hF).mono fun e w' ⟨he, ho, X', hx, hd⟩ => ⟨he, X', hx, ⟨hd, (ho.block _ (lt_of_heap h.blk) h.out).trans h.blk, fun hg => by
    rcases hx _ hg with h1 | h1
    · exact h.out h1
    · have := lt_of_heap h.blk; omega, h.new⟩, ho⟩

theorem HS.save {w wr : World} {X : Nat → Prop} {gd gh : Nat} {d d' : Dk} {has s : Int × Int} {r : Int} (h : HS w X gd gh d has wr) (hu : D.used d.fs ≤ 1000000000) (hT : Hid (Tab w)) (hs : M.save d has s = (r, d')) :
    Calls Tryz.prog 10 #[.pointer (some ⟨gh, 0, none⟩), .agg #[.int .i64 s.1, .int .i64 s.2]] wr fun e w' => e = .returned (.int .i64 r) ∧ ∃ X', (∀ k, X' k → X k ∨ wr.heap.size ≤ k) ∧ HS w X' gd gh d' (if r = 0 then s else has) w' ∧ Only (fun k => X k ∨ k = gh) wr w' :=
  (Save_any d X gd gh has s w wr h hu hT).mono fun e w' hp => by
    unfold SPost at hp
    rw [hs] at hp
    exact hp

theorem eq_of {d' : Dk} {r : Int × Dk} {x : Int} (h1 : r.1 = x) (h2 : d' = r.2) : r = (x, d') := by
  subst h1 h2; rfl

theorem RepI.nil {w : World} {F : Nat → Prop} : RepI w F [] (.slice none 0 0) := .inl ⟨rfl, Bare.nil⟩

set_option maxRecDepth 20000 in
set_option maxHeartbeats 6400000 in
theorem awake4_any (w : World) (hT : Hid (Tab w)) : Calls Tryz.prog 6 #[] w fun e w' => e = .returned (.bool true) ∧ Below w.heap.size w w' := by
  go_enter Tryz.func6, Tryz.ntmps6
  go_wp2_with fail
  refine (made_any 1000 w (by omega) (by omega)).mono ?_
  rintro e w1 ⟨gd, gr, X1, rfl, hd1, -, -, -⟩
  have H1 : Hid (DS w X1 gd y1 w1) := Lib.hid hd1
  clear hd1
  go_wp2_with fail
  refine (Open_any y1 X1 gd w1 H1.out.dsk H1.out.well.1.2.1 (by rw [ey_0.2]; decide) (H1.out.tab hT)).mono ?_
  rintro e w2 ⟨gh, rfl, hb2, hg2, hk2⟩
  rw [ey_0.1] at hk2
  have H2 : Hid (HS w X1 gd gh y1 (0, -1) w2) := Lib.hid ⟨H1.out.next hb2, hk2, fun h => by have := H1.out.lt _ h; omega, Nat.le_trans H1.out.below.size hg2⟩
  clear hb2 hg2
  obtain ⟨b0, b1, b2, -, -, -, bz⟩ := block3 hk2
  clear hk2
  go_wp2_with fail
  clear b0 b1 b2 bz
  refine (H2.out.save (s := (1, 2)) (by rw [ey_0.2]; decide) hT (eq_of ey_1.1 (rfl : y2 = _))).mono ?_
  rintro e w3 ⟨rfl, X3, -, h3, -⟩
  have H3 : Hid (HS w X3 gd gh y2 (1, 2) w3) := Lib.hid h3
  clear h3
  go_wp2_with fail
  refine (H3.out.save (s := (1, 3)) (Nat.le_trans ey_1.2 (by decide)) hT ey_b).mono ?_
  rintro e w4 ⟨rfl, X4, -, h4, -⟩
  have H4 : Hid (HS w X4 gd gh y2 (1, 2) w4) := Lib.hid h4
  clear h4
  go_wp2_with fail
  refine (H4.out.save (s := (0, -1)) (Nat.le_trans ey_1.2 (by decide)) hT ey_c).mono ?_
  rintro e w5 ⟨rfl, X5, -, h5, -⟩
  have H5 : Hid (HS w X5 gd gh y2 (1, 2) w5) := Lib.hid h5
  clear h5
  go_wp2_with fail
  refine (H5.out.save (s := (2, -1)) (Nat.le_trans ey_1.2 (by decide)) hT (eq_of ey_2.1 (rfl : y3 = _))).mono ?_
  rintro e w6 ⟨rfl, X6, -, h6, -⟩
  have H6 : Hid (HS w X6 gd gh y3 (2, -1) w6) := Lib.hid h6
  clear h6
  go_wp2_with fail
  refine (H6.out.save (s := (2, 0)) (Nat.le_trans ey_2.2 (by decide)) hT (eq_of ey_3.1 (rfl : y4 = _))).mono ?_
  rintro e w7 ⟨rfl, X7, -, h7, -⟩
  have H7 : Hid (HS w X7 gd gh y4 (2, 0) w7) := Lib.hid h7
  clear h7
  go_wp2_with fail
  refine (H7.out.stop 1 (by omega)).mono ?_
  rintro e w8 ⟨rfl, h8, -, -⟩
  have H8 := Lib.hid h8
  clear h8
  go_wp2_with fail
  refine (H8.out.save (s := (3, 0)) (Nat.le_trans ey_3.2 (by decide)) hT (eq_of ey_4.1 (rfl : y5 = _))).mono ?_
  rintro e w9 ⟨rfl, X9, -, h9, -⟩
  have H9 : Hid (HS w X9 gd gh y5 (2, 0) w9) := Lib.hid h9
  clear h9
  go_wp2_with fail
  refine (H9.out.crash [] (fun _ => False) _ RepI.nil (fun _ h => h.elim)).mono ?_
  rintro e w10 ⟨rfl, X10, -, h10, -⟩
  have H10 : Hid (HS w X10 gd gh y6 (2, 0) w10) := Lib.hid h10
  obtain ⟨b0, b1, b2, -, -, -, bz⟩ := block3 h10.blk
  clear h10
  go_wp2_with fail
  refine (On_any y6 X10 gd w10 H10.out.ds.dsk H10.out.ds.well.1.2.1 (Nat.le_trans ey_5.2 (by decide)) (H10.out.ds.tab hT)).mono ?_
  rintro e w11 ⟨rfl, hb11⟩
  rw [ey_5.1]
  have HF : Hid (Below w.heap.size w w11) := Lib.hid (H10.out.ds.below.trans (hb11.mono H10.out.ds.below.size))
  clear hb11
  go_wp2_with fail
  go_ret
  exact ⟨rfl, HF.out⟩
end Go.Proofs.YtgakcaobalfpjaaGreatDoor.M

/- Part: HardInv. -/
namespace Go.Proofs.YtgakcaobalfpjaaGreatDoor.M
open Go.RowKit
open D (Fl Dk)

/-- A slot's name; what is there of it: its bytes, how many of them safe. -/
def nmK (k : Bool) : ByteArray := if k then nmH1 else nmH0

abbrev Slt := Option (List UInt8 × Nat)

def flOf (k : Bool) : Slt → List Fl
  | none => []
  | some (b, s) => [⟨nmK k, b, s⟩]

/-- The files of two slots. -/
def fsOf (p : Slt × Slt) : List Fl := flOf false p.1 ++ flOf true p.2

def getK (p : Slt × Slt) (k : Bool) : Slt := if k then p.2 else p.1
def setK (p : Slt × Slt) (k : Bool) (o : Slt) : Slt × Slt := if k then (p.1, o) else (o, p.2)

def byt (o : Slt) : List UInt8 := match o with | some (b, _) => b | none => []

theorem nm00 : (nmH0.toList == nmH0.toList) = true := by decide +kernel
theorem nm11 : (nmH1.toList == nmH1.toList) = true := by decide +kernel
theorem nm01 : (nmH0.toList == nmH1.toList) = false := by decide +kernel
theorem nm10 : (nmH1.toList == nmH0.toList) = false := by decide +kernel
theorem ne01 : ¬ nmH0 = nmH1 := by decide +kernel
theorem ne10 : ¬ nmH1 = nmH0 := by decide +kernel
theorem ok0 : D.okName nmH0 = true := by decide +kernel
theorem ok1 : D.okName nmH1 = true := by decide +kernel
theorem less01 : Op.bytesLess nmH0.toList nmH1.toList = true := by decide +kernel
theorem less10 : Op.bytesLess nmH1.toList nmH0.toList = false := by decide +kernel

theorem bytes_fsOf (p : Slt × Slt) (k : Bool) : bytesOf (fsOf p) (nmK k) = byt (getK p k) := by
  obtain ⟨a, b⟩ := p
  rcases a with _ | ⟨a, x⟩ <;> rcases b with _ | ⟨b, y⟩ <;> cases k <;> simp [bytesOf, fsOf, flOf, nmK, getK, byt, ne01, ne10]

theorem isThere_fsOf (p : Slt × Slt) (k : Bool) : D.isThere (fsOf p) (nmK k) = (getK p k).isSome := by
  obtain ⟨a, b⟩ := p
  rcases a with _ | ⟨a, x⟩ <;> rcases b with _ | ⟨b, y⟩ <;> cases k <;> simp [D.isThere, D.find, fsOf, flOf, nmK, getK, nm00, nm01, nm10, nm11, List.findIdx_cons]

theorem used_fsOf (p : Slt × Slt) : D.used (fsOf p) = (byt p.1).length + (byt p.2).length := by
  obtain ⟨a, b⟩ := p
  rcases a with _ | ⟨a, x⟩ <;> rcases b with _ | ⟨b, y⟩ <;> simp [D.used, fsOf, flOf, byt]

theorem len_fsOf (p : Slt × Slt) : (fsOf p).length ≤ 2 := by
  obtain ⟨a, b⟩ := p
  rcases a with _ | ⟨a, x⟩ <;> rcases b with _ | ⟨b, y⟩ <;> simp [fsOf, flOf]

theorem erase_fsOf (p : Slt × Slt) (k : Bool) : (fsOf p).eraseIdx (D.find (fsOf p) (nmK k)) = fsOf (setK p k none) := by
  obtain ⟨a, b⟩ := p
  rcases a with _ | ⟨a, x⟩ <;> rcases b with _ | ⟨b, y⟩ <;> cases k <;> simp [D.find, fsOf, flOf, nmK, setK, nm00, nm01, nm10, nm11, List.findIdx_cons]

theorem add_fsOf (p : Slt × Slt) (k : Bool) (b : List UInt8) (s : Nat) (h : getK p k = none) : D.add (fsOf p) ⟨nmK k, b, s⟩ = fsOf (setK p k (some (b, s))) := by
  obtain ⟨a, c⟩ := p
  rcases a with _ | ⟨a, x⟩ <;> rcases c with _ | ⟨c, y⟩ <;> cases k <;> simp [getK] at h <;> simp [D.add, D.place, fsOf, flOf, nmK, setK, less01, less10, List.findIdx_cons]

theorem lay_fsOf (p : Slt × Slt) (k : Bool) (b x : List UInt8) (s : Nat) (h : getK p k = some (b, s)) : D.layAt (fsOf p) (D.find (fsOf p) (nmK k)) x = fsOf (setK p k (some (b ++ x, s))) := by
  obtain ⟨a, c⟩ := p
  rcases a with _ | ⟨a, u⟩ <;> rcases c with _ | ⟨c, y⟩ <;> cases k <;> simp [getK] at h <;> obtain ⟨rfl, rfl⟩ := h <;> simp [D.layAt, D.find, fsOf, flOf, nmK, setK, nm00, nm01, nm10, nm11, List.findIdx_cons]

theorem sync_fsOf (p : Slt × Slt) (k : Bool) (b : List UInt8) (s : Nat) (h : getK p k = some (b, s)) : D.syncAt (fsOf p) (D.find (fsOf p) (nmK k)) = fsOf (setK p k (some (b, b.length))) := by
  obtain ⟨a, c⟩ := p
  rcases a with _ | ⟨a, u⟩ <;> rcases c with _ | ⟨c, y⟩ <;> cases k <;> simp [getK] at h <;> obtain ⟨rfl, rfl⟩ := h <;> simp [D.syncAt, D.find, fsOf, flOf, nmK, setK, nm00, nm01, nm10, nm11, List.findIdx_cons]

theorem get_set (p : Slt × Slt) (k : Bool) (o : Slt) : getK (setK p k o) k = o := by cases k <;> rfl
theorem get_set_ne (p : Slt × Slt) (k : Bool) (o : Slt) : getK (setK p k o) (!k) = getK p (!k) := by cases k <;> rfl
theorem set_set (p : Slt × Slt) (k : Bool) (o o2 : Slt) : setK (setK p k o) k o2 = setK p k o2 := by cases k <;> rfl
theorem okK (k : Bool) : D.okName (nmK k) = true := by cases k; exact ok0; exact ok1
theorem beqK (k : Bool) : ((nmK k).toList == (nmK k).toList) = true := by cases k; exact nm00; exact nm11

theorem tick_roomH (d : Dk) : d.tick.room = d.room := by unfold D.Dk.tick; split <;> rfl
theorem tick_fs1 (d : Dk) : d.tick.fs = d.fs := by unfold D.Dk.tick; split <;> rfl
theorem tick_endsH (d : Dk) : d.tick.ends = d.ends := by unfold D.Dk.tick; split <;> rfl

/-- A slot's file is taken away. -/
theorem remove_slot {d : Dk} {p : Slt × Slt} {k : Bool} (hf : d.fs = fsOf p) (hk : (getK p k).isSome = true) :
    (d.stopped = true ∧ D.remove d [nmK k] = (32, d)) ∨ (d.stopped = false ∧ ∃ d', D.remove d [nmK k] = (0, d') ∧ d'.fs = fsOf (setK p k none) ∧ d'.room = d.room ∧ d'.ends = d.ends) := by
  unfold D.remove
  cases hs : d.stopped with
  | true => exact .inl ⟨rfl, by simp⟩
  | false =>
    refine .inr ⟨rfl, { d.tick with fs := fsOf (setK p k none) }, ?_, rfl, tick_roomH d, tick_endsH d⟩
    simp only [Bool.false_eq_true, if_false, tick_fs1, hf]
    rw [if_neg (by simp [D.eachOnce, isThere_fsOf, hk])]
    simp [erase_fsOf]

/-- It is laid anew. -/
theorem append_slot {d : Dk} {p : Slt × Slt} {k : Bool} {b : List UInt8} (hf : d.fs = fsOf p) (hk : getK p k = none) (hr : ((D.used (fsOf p) + b.length : Nat) : Int) ≤ d.room) :
    (d.stopped = true ∧ D.append d (nmK k) [b] = (32, d)) ∨ (d.stopped = false ∧ ∃ d', D.append d (nmK k) [b] = (0, d') ∧ d'.fs = fsOf (setK p k (some (b, 0))) ∧ d'.room = d.room ∧ d'.ends = d.ends) := by
  unfold D.append
  cases hs : d.stopped with
  | true => exact .inl ⟨rfl, by simp⟩
  | false =>
    refine .inr ⟨rfl, { d.tick with fs := fsOf (setK p k (some (b, 0))) }, ?_, rfl, tick_roomH d, tick_endsH d⟩
    have hl := len_fsOf p
    simp only [Bool.false_eq_true, if_false]
    rw [if_neg (by rw [okK]; simp), if_neg (by
      unfold D.Dk.free
      rw [tick_roomH, tick_fs1, hf, isThere_fsOf, hk]
      simp
      omega)]
    simp only [tick_fs1, hf, isThere_fsOf, hk, Option.isSome_none, Bool.false_eq_true, if_false]
    rw [add_fsOf p k [] 0 hk, lay_fsOf _ k [] _ 0 (get_set p k _), set_set]
    simp

/-- It is made safe. -/
theorem sync_slot {d : Dk} {p : Slt × Slt} {k : Bool} {b : List UInt8} {s : Nat} (hf : d.fs = fsOf p) (hk : getK p k = some (b, s)) :
    (d.stopped = true ∧ D.sync d [nmK k] = (32, d)) ∨ (d.stopped = false ∧ ∃ d', D.sync d [nmK k] = (0, d') ∧ d'.fs = fsOf (setK p k (some (b, b.length))) ∧ d'.room = d.room ∧ d'.ends = d.ends) := by
  unfold D.sync
  cases hs : d.stopped with
  | true => exact .inl ⟨rfl, by simp⟩
  | false =>
    refine .inr ⟨rfl, { d.tick with fs := fsOf (setK p k (some (b, b.length))) }, ?_, rfl, tick_roomH d, tick_endsH d⟩
    simp only [Bool.false_eq_true, if_false, tick_fs1, hf]
    rw [if_neg (by simp [isThere_fsOf, hk])]
    simp [sync_fsOf p k b s hk]

theorem not_stopped {d : Dk} (h : d.ends = false) : d.stopped = false := by unfold D.Dk.stopped; rw [h]; rfl

/-- A file anew: what may come of it. -/
theorem saveF_slot {d : Dk} {p : Slt × Slt} {k : Bool} {b : List UInt8} (hf : d.fs = fsOf p) (hr : ((D.used (fsOf p) + b.length : Nat) : Int) ≤ d.room) :
    ∃ r d', saveF d (nmK k) b = (r, d') ∧ d'.room = d.room ∧ (d.ends = false → r = 0 ∧ d'.ends = false) ∧
      ((r = 0 ∧ d'.fs = fsOf (setK p k (some (b, b.length)))) ∨ (r = 32 ∧ (d'.fs = fsOf p ∨ d'.fs = fsOf (setK p k none) ∨ d'.fs = fsOf (setK p k (some (b, 0)))))) := by
  -- what is done behind the removing
  have tail : ∀ d1 : Dk, d1.fs = fsOf (setK p k none) → d1.room = d.room → d1.ends = d.ends →
      ∃ r d', (if (D.append d1 (nmK k) [b]).1 ≠ 0 then D.append d1 (nmK k) [b] else D.sync (D.append d1 (nmK k) [b]).2 [nmK k]) = (r, d') ∧ d'.room = d.room ∧ (d.ends = false → r = 0 ∧ d'.ends = false) ∧
      ((r = 0 ∧ d'.fs = fsOf (setK p k (some (b, b.length)))) ∨ (r = 32 ∧ (d'.fs = fsOf (setK p k none) ∨ d'.fs = fsOf (setK p k (some (b, 0)))))) := by
    intro d1 h1 h2 h3
    have hu : D.used (fsOf (setK p k none)) ≤ D.used (fsOf p) := by
      rw [used_fsOf, used_fsOf]
      cases k <;> simp [setK, byt]
    rcases append_slot (k := k) (b := b) h1 (get_set p k none) (by rw [h2]; omega) with ⟨hs, ha⟩ | ⟨hs, d2, ha, a1, a2, a3⟩
    · rw [ha]
      exact ⟨32, d1, by simp, h2, fun he => (by rw [not_stopped (h3.trans he)] at hs; cases hs), .inr ⟨rfl, .inl h1⟩⟩
    · rw [ha, set_set] at *
      simp only [ne_eq, not_true_eq_false, if_false]
      rcases sync_slot (k := k) (b := b) (s := 0) (p := setK p k (some (b, 0))) a1 (get_set p k _) with ⟨hs2, hb⟩ | ⟨hs2, d3, hb, b1, b2, b3⟩
      · rw [hb]
        exact ⟨32, d2, rfl, a2.trans h2, fun he => (by rw [not_stopped (a3.trans (h3.trans he))] at hs2; cases hs2), .inr ⟨rfl, .inr a1⟩⟩
      · rw [hb]
        rw [set_set] at b1
        exact ⟨0, d3, rfl, b2.trans (a2.trans h2), fun he => ⟨rfl, b3.trans (a3.trans (h3.trans he))⟩, .inl ⟨rfl, b1⟩⟩
  unfold saveF
  simp only
  rw [hf, isThere_fsOf]
  cases hk : getK p k with
  | none =>
    simp only [Option.isSome_none, Bool.false_eq_true, if_false, ne_eq, not_true_eq_false]
    have e : setK p k none = p := by
      obtain ⟨x, y⟩ := p
      cases k <;> simp [getK] at hk <;> subst hk <;> rfl
    obtain ⟨r, d', h1, h2, h3, h4⟩ := tail d (by rw [e]; exact hf) rfl rfl
    refine ⟨r, d', h1, h2, h3, ?_⟩
    rcases h4 with h4 | ⟨h4, h5⟩
    · exact .inl h4
    · exact .inr ⟨h4, .inr h5⟩
  | some o =>
    simp only [Option.isSome_some, if_true]
    rcases remove_slot (k := k) hf (by rw [hk]; rfl) with ⟨hs, ha⟩ | ⟨hs, d1, ha, a1, a2, a3⟩
    · rw [ha]
      exact ⟨32, d, by simp, rfl, fun he => (by rw [not_stopped he] at hs; cases hs), .inr ⟨rfl, .inl hf⟩⟩
    · rw [ha]
      obtain ⟨r, d', h1, h2, h3, h4⟩ := tail d1 a1 a2 a3
      refine ⟨r, d', by simpa using h1, h2, h3, ?_⟩
      rcases h4 with h4 | ⟨h4, h5⟩
      · exact .inl h4
      · exact .inr ⟨h4, .inr h5⟩

/-- The newest of two slots. -/
def nw (a b : Nat × (Int × Int)) : Nat × Nat × (Int × Int) :=
  if a.1 = 0 ∧ b.1 = 0 then (2, 0, (0, -1)) else if a.1 < b.1 then (1, b.1, b.2) else (0, a.1, a.2)

theorem newest_fsOf (p : Slt × Slt) : newest (fsOf p) = nw (slot (byt p.1)) (slot (byt p.2)) := by
  have h0 := bytes_fsOf p false
  have h1 := bytes_fsOf p true
  unfold newest nw
  rw [show nmK false = nmH0 from rfl] at h0
  rw [show nmK true = nmH1 from rfl] at h1
  rw [h0, h1]
  rfl

/-- Which slot is written next. -/
def nextK (p : Slt × Slt) : Bool := decide ((newest (fsOf p)).1 = 0)

theorem other_nextK (p : Slt × Slt) : other (newest (fsOf p)).1 = nmK (nextK p) := by
  unfold other nextK nmK
  by_cases h : (newest (fsOf p)).1 = 0 <;> simp [h]

/-- What isn't whole in the other slot changes nothing. -/
theorem newest_cut (p : Slt × Slt) (o : Slt) (ho : (slot (byt o)).1 = 0) : (newest (fsOf (setK p (nextK p) o))).2 = (newest (fsOf p)).2 := by
  unfold nextK
  rw [newest_fsOf, newest_fsOf]
  obtain ⟨a, b⟩ := p
  simp only
  obtain ⟨x, hx⟩ : ∃ x, x = slot (byt a) := ⟨_, rfl⟩
  obtain ⟨y, hy⟩ : ∃ y, y = slot (byt b) := ⟨_, rfl⟩
  obtain ⟨z, hz⟩ : ∃ z, z = slot (byt o) := ⟨_, rfl⟩
  rw [← hx, ← hy]
  rw [← hz] at ho
  unfold nw
  by_cases h1 : x.1 = 0 ∧ y.1 = 0
  · rw [if_pos h1]
    simp [setK, ← hz, ← hy, ho, h1.2]
  · rw [if_neg h1]
    by_cases h2 : x.1 < y.1
    · rw [if_pos h2]
      have h3 : ¬ y.1 = 0 := by omega
      have h4 : 0 < y.1 := by omega
      simp [setK, ← hz, ← hy, ho, h3, h4]
    · rw [if_neg h2]
      have h3 : ¬ x.1 = 0 := by omega
      simp [setK, ← hz, ← hx, ho, h3]

/-- What is whole there, with a count of one more, is the newest then. -/
theorem newest_more (p : Slt × Slt) (o : Slt) (s : Int × Int) (ho : slot (byt o) = ((newest (fsOf p)).2.1 + 1, s)) : (newest (fsOf (setK p (nextK p) o))).2 = ((newest (fsOf p)).2.1 + 1, s) := by
  unfold nextK
  rw [newest_fsOf] at ho ⊢
  rw [newest_fsOf]
  obtain ⟨a, b⟩ := p
  simp only at ho ⊢
  obtain ⟨x, hx⟩ : ∃ x, x = slot (byt a) := ⟨_, rfl⟩
  obtain ⟨y, hy⟩ : ∃ y, y = slot (byt b) := ⟨_, rfl⟩
  rw [← hx, ← hy] at ho ⊢
  unfold nw at ho ⊢
  by_cases h1 : x.1 = 0 ∧ y.1 = 0
  · rw [if_pos h1] at ho ⊢
    simp [setK, ho, ← hy, h1.2]
  · rw [if_neg h1] at ho ⊢
    by_cases h2 : x.1 < y.1
    · rw [if_pos h2] at ho ⊢
      simp only at ho
      have h4 : ¬ y.1 + 1 < y.1 := by omega
      simp [setK, ho, ← hy, h4]
    · rw [if_neg h2] at ho ⊢
      simp only at ho
      simp [setK, ho, ← hx]

theorem slot_nil : (slot []).1 = 0 := by unfold slot; rfl

/-- A disk with slots alone, all of it safe, whose newest slot says this. -/
def Inv (d : Dk) (n : Nat) (st : Int × Int) : Prop :=
  ∃ p : Slt × Slt, d.fs = fsOf p ∧ (∀ k b s, getK p k = some (b, s) → b.length ≤ 31 ∧ s = b.length) ∧ (newest (fsOf p)).2.1 ≤ n ∧ (newest (fsOf p)).2.2 = st ∧ 200 ≤ d.room

theorem Inv.mono {d : Dk} {n m : Nat} {st : Int × Int} (h : Inv d n st) (hm : n ≤ m) : Inv d m st := by
  obtain ⟨p, h1, h2, h3, h4, h5⟩ := h
  exact ⟨p, h1, h2, Nat.le_trans h3 hm, h4, h5⟩

theorem byt_le {p : Slt × Slt} (h : ∀ k b s, getK p k = some (b, s) → b.length ≤ 31 ∧ s = b.length) : (byt p.1).length ≤ 31 ∧ (byt p.2).length ≤ 31 := by
  obtain ⟨a, b⟩ := p
  constructor
  · rcases a with _ | ⟨a, x⟩
    · simp [byt]
    · exact (h false a x rfl).1
  · rcases b with _ | ⟨b, y⟩
    · simp [byt]
    · exact (h true b y rfl).1

theorem Inv.used {d : Dk} {n : Nat} {st : Int × Int} (h : Inv d n st) : D.used d.fs ≤ 62 := by
  obtain ⟨p, h1, h2, -⟩ := h
  have := byt_le h2
  rw [h1, used_fsOf]
  omega

theorem Inv.on {d : Dk} {n : Nat} {st : Int × Int} (h : Inv d n st) : (newest d.fs).2.2 = st := by
  obtain ⟨p, h1, -, -, h4, -⟩ := h
  rw [h1, h4]

theorem Inv.stop {d : Dk} {n : Nat} {st : Int × Int} (h : Inv d n st) (k : Int) : Inv (D.stop d k) n st := h

theorem Inv.fresh {n : Int} (h : 200 ≤ n) : Inv (fresh n) 0 (0, -1) :=
  ⟨(none, none), rfl, (by intro k b s h; cases k <;> cases h), by rw [newest_fsOf]; decide +kernel, by rw [newest_fsOf]; decide +kernel, h⟩

/-- A crash of a slot's file. -/
def Stays (o o2 : Slt) : Prop := match o with
  | none => o2 = none
  | some (b, s) => ∃ m, s ≤ m ∧ m ≤ b.length ∧ o2 = some (b.take m, m)

theorem staysK_le (f : Fl) (k : Option Int) (h : f.safe ≤ f.b.length) : f.safe ≤ D.stays f k ∧ D.stays f k ≤ f.b.length := by
  unfold D.stays
  split
  · exact ⟨Nat.le_refl _, h⟩
  · split
    · omega
    · exact ⟨Nat.le_refl _, h⟩

theorem crash_fsOf (p : Slt × Slt) (ks : List Int) (h : ∀ k b s, getK p k = some (b, s) → s ≤ b.length) : ∃ p2, D.crashFs (fsOf p) ks = fsOf p2 ∧ Stays p.1 p2.1 ∧ Stays p.2 p2.2 := by
  obtain ⟨a, c⟩ := p
  rcases a with _ | ⟨a, x⟩ <;> rcases c with _ | ⟨c, y⟩
  · exact ⟨(none, none), rfl, rfl, rfl⟩
  · have h1 := staysK_le ⟨nmK true, c, y⟩ ks.head? (h true c y rfl)
    exact ⟨(none, some _), rfl, rfl, _, h1.1, h1.2, rfl⟩
  · have h1 := staysK_le ⟨nmK false, a, x⟩ ks.head? (h false a x rfl)
    exact ⟨(some _, none), rfl, ⟨_, h1.1, h1.2, rfl⟩, rfl⟩
  · have h1 := staysK_le ⟨nmK false, a, x⟩ ks.head? (h false a x rfl)
    have h2 := staysK_le ⟨nmK true, c, y⟩ ks.tail.head? (h true c y rfl)
    exact ⟨(some _, some _), rfl, ⟨_, h1.1, h1.2, rfl⟩, _, h2.1, h2.2, rfl⟩

theorem stays_same {o o2 : Slt} (h : Stays o o2) (hs : ∀ b s, o = some (b, s) → s = b.length) : o2 = o := by
  rcases o with _ | ⟨b, s⟩
  · exact h
  · obtain ⟨m, h1, h2, rfl⟩ := h
    have := hs b s rfl
    obtain rfl : m = s := by omega
    rw [this, List.take_length]

/-- What is safe outlives a crash. -/
theorem crash_same {p : Slt × Slt} (h : ∀ k b s, getK p k = some (b, s) → b.length ≤ 31 ∧ s = b.length) (ks : List Int) : D.crashFs (fsOf p) ks = fsOf p := by
  obtain ⟨p2, h1, h2, h3⟩ := crash_fsOf p ks fun k b s hk => by have := (h k b s hk).2; omega
  have e1 := stays_same h2 fun b s e => (h false b s e).2
  have e2 := stays_same h3 fun b s e => (h true b s e).2
  rw [h1]
  obtain ⟨a, b⟩ := p
  obtain ⟨a2, b2⟩ := p2
  simp only at e1 e2
  rw [e1, e2]

theorem Inv.crash {d : Dk} {n : Nat} {st : Int × Int} (h : Inv d n st) (ks : List Int) : Inv (D.crash d ks).2 n st := by
  obtain ⟨p, h1, h2, h3, h4, h5⟩ := h
  refine ⟨p, ?_, h2, h3, h4, h5⟩
  show D.crashFs d.fs ks = _
  rw [h1, crash_same h2]

theorem not_of_ne : ∀ {k b : Bool}, ¬ k = b → k = !b := by decide

/-- What a save leaves. -/
theorem save_inv {d : Dk} {n : Nat} {has s : Int × Int} (h : Inv d n has) (hn : n + 1 < top) :
    ∃ r d', save d has s = (r, d') ∧ ((r = 0 ∧ follows s has = true ∧ Inv d' (n + 1) s) ∨ (r = 2 ∧ d' = d ∧ (follows s has = false ∨ (top : Int) ≤ s.1 ∨ (top : Int) ≤ s.2)) ∨
      (r = 32 ∧ follows s has = true ∧ ∀ ks, Inv (D.crash d' ks).2 (n + 1) has ∨ Inv (D.crash d' ks).2 (n + 1) s)) ∧
      (d.ends = false → (r = 0 ∨ r = 2) ∧ d'.ends = false) := by
  obtain ⟨p, h1, h2, h3, h4, h5⟩ := h
  unfold save
  by_cases hf : follows s has = false ∨ (top : Int) ≤ s.1 ∨ (top : Int) ≤ s.2
  · rw [if_pos hf]
    exact ⟨2, d, rfl, .inr (.inl ⟨rfl, rfl, hf⟩), fun he => ⟨.inr rfl, he⟩⟩
  · rw [if_neg hf]
    have hfo : follows s has = true := by
      cases hx : follows s has with
      | true => rfl
      | false => exact absurd (.inl hx) hf
    by_cases he : s = has
    · rw [if_pos he]
      refine ⟨0, d, rfl, .inl ⟨rfl, hfo, ?_⟩, fun he => ⟨.inl rfl, he⟩⟩
      rw [he]
      exact ⟨p, h1, h2, by omega, h4, h5⟩
    · rw [if_neg he, h1, other_nextK]
      obtain ⟨c, hc⟩ : ∃ c, c = (newest (fsOf p)).2.1 := ⟨_, rfl⟩
      rw [← hc] at h3 ⊢
      have hsl : InSlot (c + 1) s := by
        unfold follows at hfo
        have h6 := of_decide_eq_true hfo
        unfold InSlot
        refine ⟨by omega, h6.1, ?_, h6.2.1, ?_⟩
        · rcases Int.lt_or_le s.1 (top : Int) with h7 | h7
          · exact h7
          · exact absurd (.inr (.inl h7)) hf
        · rcases Int.lt_or_le s.2 (top : Int) with h7 | h7
          · exact h7
          · exact absurd (.inr (.inr h7)) hf
      have hl := slotForm_le (c + 1) s
      have hb := byt_le h2
      have hback := slot_back hsl
      obtain ⟨b, hbe⟩ : ∃ b, b = slotForm (c + 1) s := ⟨_, rfl⟩
      have hcut : ∀ m, m < b.length → (slot (b.take m)).1 = 0 := fun m hm => by rw [hbe] at hm ⊢; exact slot_cut hsl hm
      rw [← hbe] at hl hback ⊢
      obtain ⟨r, d', e1, e2, e3, e4⟩ := saveF_slot (k := nextK p) (b := b) h1 (by rw [used_fsOf]; omega)
      refine ⟨r, d', e1, ?_, fun hx => ⟨.inl (e3 hx).1, (e3 hx).2⟩⟩
      -- what a slot other than the newest may be
      have get2 : ∀ (o : Slt), (∀ b2 s2, o = some (b2, s2) → b2.length ≤ 31 ∧ s2 = b2.length) → ∀ k b2 s2, getK (setK p (nextK p) o) k = some (b2, s2) → b2.length ≤ 31 ∧ s2 = b2.length := by
        intro o ho k b2 s2 hk
        by_cases hkk : k = nextK p
        · rw [hkk, get_set] at hk
          exact ho b2 s2 hk
        · have : k = !(nextK p) := not_of_ne hkk
          rw [this, get_set_ne] at hk
          exact h2 _ b2 s2 hk
      have whole : ∀ d2 : Dk, d2.room = d.room → d2.fs = fsOf (setK p (nextK p) (some (b, b.length))) → Inv d2 (n + 1) s := fun d2 hr hd2 => by
        have hm := newest_more p (some (b, b.length)) s (by rw [← hc]; exact hback)
        refine ⟨_, hd2, get2 _ (fun b2 s2 e => by cases e; exact ⟨hl, rfl⟩), ?_, ?_, by rw [hr]; exact h5⟩
        · rw [hm, ← hc]; simp only; omega
        · rw [hm]
      have cuts : ∀ (d2 : Dk) (o : Slt), d2.room = d.room → d2.fs = fsOf (setK p (nextK p) o) → (slot (byt o)).1 = 0 → (∀ b2 s2, o = some (b2, s2) → b2.length ≤ 31 ∧ s2 = b2.length) → Inv d2 (n + 1) has := fun d2 o hr hd2 hs ho => by
        have hm := newest_cut p o hs
        exact ⟨_, hd2, get2 o ho, by rw [hm, ← hc]; omega, by rw [hm, h4], by rw [hr]; exact h5⟩
      rcases e4 with ⟨rfl, e5⟩ | ⟨rfl, e5⟩
      · exact .inl ⟨rfl, hfo, whole d' e2 e5⟩
      · refine .inr (.inr ⟨rfl, hfo, fun ks => ?_⟩)
        rcases e5 with e5 | e5 | e5
        · refine .inl ⟨p, ?_, h2, by rw [← hc]; omega, h4, by show _ ≤ d'.room; rw [e2]; exact h5⟩
          show D.crashFs d'.fs ks = _
          rw [e5, crash_same h2]
        · refine .inl (cuts _ none e2 ?_ slot_nil fun b2 s2 e => by cases e)
          show D.crashFs d'.fs ks = _
          rw [e5, crash_same (get2 none fun b2 s2 e => by cases e)]
        · obtain ⟨p2, f1, f2, f3⟩ := crash_fsOf (setK p (nextK p) (some (b, 0))) ks fun k b2 s2 hk => by
            by_cases hkk : k = nextK p
            · rw [hkk, get_set] at hk
              cases hk; omega
            · have : k = !(nextK p) := not_of_ne hkk
              rw [this, get_set_ne] at hk
              have := (h2 _ b2 s2 hk).2
              omega
          have hp2 : ∃ m, m ≤ b.length ∧ p2 = setK p (nextK p) (some (b.take m, m)) := by
            obtain ⟨pa, pb⟩ := p
            obtain ⟨qa, qb⟩ := p2
            cases hq : nextK (pa, pb) with
            | false =>
              rw [hq] at f2 f3
              obtain ⟨m, m1, m2, m3⟩ := f2
              have := stays_same f3 fun b s e => (h2 true b s e).2
              simp only at m3 this
              exact ⟨m, m2, by rw [m3, this]; rfl⟩
            | true =>
              rw [hq] at f2 f3
              obtain ⟨m, m1, m2, m3⟩ := f3
              have := stays_same f2 fun b s e => (h2 false b s e).2
              simp only at m3 this
              exact ⟨m, m2, by rw [m3, this]; rfl⟩
          obtain ⟨m, hm, rfl⟩ := hp2
          have hfs : (D.crash d' ks).2.fs = fsOf (setK p (nextK p) (some (b.take m, m))) := by
            show D.crashFs d'.fs ks = _
            rw [e5, f1]
          by_cases hmb : m = b.length
          · subst hmb
            rw [List.take_length] at hfs
            exact .inr (whole _ e2 hfs)
          · refine .inl (cuts _ _ e2 hfs (hcut m (by omega)) fun b2 s2 e => ?_)
            cases e
            rw [List.length_take]
            omega

/-- A save on a disk that doesn't stop. -/
theorem save_free {d : Dk} {n : Nat} {has s : Int × Int} (h : Inv d n has) (hn : n + 1 < top) (he : d.ends = false) (h1 : s.1 < (top : Int)) (h2 : s.2 < (top : Int)) :
    (follows s has = true ∧ ∃ d', save d has s = (0, d') ∧ Inv d' (n + 1) s ∧ d'.ends = false) ∨ (follows s has = false ∧ save d has s = (2, d)) := by
  obtain ⟨r, d', e1, e2, e3⟩ := save_inv (s := s) h hn
  have e3 := e3 he
  rcases e2 with ⟨rfl, e4, e5⟩ | ⟨rfl, rfl, e4⟩ | ⟨rfl, -, -⟩
  · exact .inl ⟨e4, d', e1, e5, e3.2⟩
  · refine .inr ⟨?_, e1⟩
    rcases e4 with e4 | e4 | e4
    · exact e4
    · omega
    · omega
  · rcases e3.1 with h | h <;> cases h

theorem follows_trans {a b c : Int × Int} (h1 : follows a b = true) (h2 : follows b c = true) : follows a c = true := by
  unfold follows at *
  have h1 := of_decide_eq_true h1
  have h2 := of_decide_eq_true h2
  apply decide_eq_true
  omega
end Go.Proofs.YtgakcaobalfpjaaGreatDoor.M

/- Part: HardRow. -/
namespace Go.Proofs.YtgakcaobalfpjaaGreatDoor.M
open Go.RowKit Go.Maps
open D (Fl Dk)

def cells2 (l : List (Int × Int)) : List Value := (l.map fun s => [Value.int .i64 s.1, Value.int .i64 s.2]).flatten

theorem cells2_nil : cells2 [] = [] := rfl
theorem cells2_append (a b : List (Int × Int)) : cells2 (a ++ b) = cells2 a ++ cells2 b := by simp [cells2]
theorem cells2_one (s : Int × Int) : cells2 [s] = [.int .i64 s.1, .int .i64 s.2] := rfl
theorem cells2_length (l : List (Int × Int)) : (cells2 l).length = l.length * 2 := by
  induction l with
  | nil => rfl
  | cons a l ih => simp [cells2] at ih ⊢; omega

theorem cells2_get : ∀ (l : List (Int × Int)) (i : Nat) (hi : i < l.length), (cells2 l)[i * 2]? = some (.int .i64 l[i].1) ∧ (cells2 l)[i * 2 + 1]? = some (.int .i64 l[i].2)
  | a :: l, 0, _ => ⟨rfl, rfl⟩
  | a :: l, i + 1, hi => by
    have h := cells2_get l i (by simpa using hi)
    have e : cells2 (a :: l) = .int .i64 a.1 :: .int .i64 a.2 :: cells2 l := rfl
    rw [e, show (i + 1) * 2 = i * 2 + 1 + 1 by omega]
    simpa using h

/-- A row of states of a call's own. -/
def OwnSt (base : Nat) (l : List (Int × Int)) (v : Value) (w : World) : Prop := w.ownsRow base 33 2 v l.length (cells2 l)

theorem OwnSt.rep {base : Nat} {l : List (Int × Int)} {v : Value} {w : World} (h : OwnSt base l v w) : RepSts w (fun b => base ≤ b ∧ b < w.heap.size) l v := by
  obtain ⟨hx, h | ⟨g, cap, cur, hv, hg, hcur, hn, hm, hs, ht⟩⟩ := h
  · obtain ⟨rfl, h2⟩ := h
    rw [List.length_eq_zero_iff] at h2
    exact .inl ⟨h2, Bare.nil⟩
  · refine .inr ⟨g, 0, cap, hv, ⟨hg, lt_of_heap hcur⟩, hn, by unfold maxLen at hm; omega, fun i hi => ?_⟩
    have hc := fun j => cell_of_row w g j _ _ _ hcur
    have hget := cells2_get l i hi
    rw [← ht] at hget
    rw [List.getElem?_take, List.getElem?_take] at hget
    rw [if_pos (by omega), if_pos (by omega)] at hget
    simp only [Array.getElem?_toList] at hget
    exact ⟨(hc _).trans (by simpa using hget.1), (hc _).trans (by simpa using hget.2)⟩

theorem OwnSt.lt {base : Nat} {l : List (Int × Int)} {v : Value} {w : World} (h : OwnSt base l v w) {g : Nat} (hg : v.ownBlock = some g) : base ≤ g ∧ g < w.heap.size := by
  obtain ⟨hx, h | ⟨g', cap, cur, hv, hgb, hcur, -⟩⟩ := h
  · rw [h.1] at hg; cases hg
  · rw [hv] at hg; cases hg; exact ⟨hgb, lt_of_heap hcur⟩

theorem OwnSt.same {base : Nat} {l : List (Int × Int)} {v : Value} {w w' : World} (h : OwnSt base l v w) (hb : ∀ g, v.ownBlock = some g → w'.heap[g]? = w.heap[g]?) : OwnSt base l v w' := by
  obtain ⟨hx, h | ⟨g, cap, cur, hv, hg, hcur, hr⟩⟩ := h
  · exact ⟨hx, .inl h⟩
  · exact ⟨hx, .inr ⟨g, cap, cur, hv, hg, (hb g (by rw [hv]; rfl)).trans hcur, hr⟩⟩

theorem OwnSt.slice {base : Nat} {l : List (Int × Int)} {v : Value} {w : World} (h : OwnSt base l v w) : ∃ a c, v = .slice a l.length c := owned_slice h

/-- What keeps a disk's state, beside a row of states. -/
structure CS (w : World) (gd gh : Nat) (d : Dk) (has : Int × Int) (l : List (Int × Int)) (v : Value) (wr : World) : Prop where
  ex : ∃ X, HS w X gd gh d has wr ∧ (∀ g, v.ownBlock = some g → ¬ X g ∧ g ≠ gh)
  row : OwnSt w.heap.size l v wr

theorem CS.next {w wr w' : World} {gd gh : Nat} {d : Dk} {has : Int × Int} {l : List (Int × Int)} {v : Value} (h : CS w gd gh d has l v wr) (hb : Below wr.heap.size wr w') : CS w gd gh d has l v w' := by
  obtain ⟨⟨X, h1, h2⟩, h3⟩ := h
  exact ⟨⟨X, h1.next hb, h2⟩, h3.same fun g hg => hb.block g (h3.lt hg).2⟩

theorem CS.below {w wr : World} {gd gh : Nat} {d : Dk} {has : Int × Int} {l : List (Int × Int)} {v : Value} (h : CS w gd gh d has l v wr) : Below w.heap.size w wr := by
  obtain ⟨⟨X, h1, -⟩, -⟩ := h
  exact h1.ds.below

/-- Behind a call that turns the disk alone, and what keeps it. -/
theorem CS.call {w wr w' : World} {X X' : Nat → Prop} {gd gh : Nat} {d d' : Dk} {has has' : Int × Int} {l : List (Int × Int)} {v : Value} (h : HS w X gd gh d has wr) (hv : ∀ g, v.ownBlock = some g → ¬ X g ∧ g ≠ gh) (h3 : OwnSt w.heap.size l v wr)
    (ho : Only (fun k => X k ∨ k = gh) wr w') (hX : ∀ k, X' k → X k ∨ wr.heap.size ≤ k) (h' : HS w X' gd gh d' has' w') : CS w gd gh d' has' l v w' := by
  refine ⟨⟨X', h', fun g hg => ⟨fun hx => ?_, (hv g hg).2⟩⟩, h3.same fun g hg => ho.block g (h3.lt hg).2 fun hx => ?_⟩
  · rcases hX g hx with h | h
    · exact (hv g hg).1 h
    · have := (h3.lt hg).2; omega
  · rcases hx with hx | hx
    · exact (hv g hg).1 hx
    · exact (hv g hg).2 hx

theorem CS.append {w wr w' : World} {gd gh : Nat} {d : Dk} {has s : Int × Int} {l : List (Int × Int)} {v v' : Value} (h : CS w gd gh d has l v wr) (ha : AppLeft wr w.heap.size 33 2 v l.length 1 (cells2 l) [.int .i64 s.1, .int .i64 s.2] v' w') : CS w gd gh d has (l ++ [s]) v' w' := by
  obtain ⟨⟨X, h1, h2⟩, h3⟩ := h
  obtain ⟨ho, hg, hb⟩ := ha
  have hz := h1.ds.below.size
  have hgz := lt_of_heap h1.blk
  have hds : DS w X gd d w' := by
    refine ⟨⟨hg.os.trans h1.ds.below.os, hg.tape.trans h1.ds.below.tape, hg.output.trans h1.ds.below.output, Nat.le_trans hz hg.size, fun k hk => ?_⟩, h1.ds.own, ⟨h1.ds.dsk.1.same (fun _ h => h) fun k hk => hg.block k (h1.ds.lt k hk) fun e => (h2 k e.symm).1 hk, fun k hk => Nat.lt_of_lt_of_le (h1.ds.lt k hk) hg.size⟩, h1.ds.well⟩
    rw [hg.block k (Nat.lt_of_lt_of_le hk hz) fun e => by have := (h3.lt e.symm).1; omega]
    exact h1.ds.below.block k hk
  refine ⟨⟨X, ⟨hds, (hg.block gh hgz fun e => (h2 gh e.symm).2 rfl).trans h1.blk, h1.out, h1.new⟩, fun g hgg => ?_⟩, ?_⟩
  · rcases hb with hb | hb
    · exact h2 g (hb ▸ hgg)
    · rw [hgg] at hb
      cases hb
      exact ⟨fun hx => by have := h1.ds.lt _ hx; omega, by omega⟩
  · show w'.ownsRow _ _ 2 v' (l ++ [s]).length (cells2 (l ++ [s]))
    rw [List.length_append, cells2_append, cells2_one]
    exact ho

/-- Opened anew. -/
theorem CS.open {w wr w' : World} {gd gh g2 : Nat} {d : Dk} {has has' : Int × Int} {l : List (Int × Int)} {v : Value} (h : CS w gd gh d has l v wr) (hb : Below wr.heap.size wr w') (hg : wr.heap.size ≤ g2)
    (hk : w'.heap[g2]? = some (.cells #[.int .i64 has'.1, .int .i64 has'.2, .pointer (some ⟨gd, 0, none⟩)] 53)) : CS w gd g2 d has' l v w' := by
  obtain ⟨⟨X, h1, h2⟩, h3⟩ := h
  have hz := h1.ds.below.size
  exact ⟨⟨X, ⟨h1.ds.next hb, hk, fun hx => by have := h1.ds.lt _ hx; omega, by omega⟩, fun g hgg => ⟨(h2 g hgg).1, by have := (h3.lt hgg).2; omega⟩⟩, h3.same fun g hgg => hb.block g (h3.lt hgg).2⟩

/-- One state in a block of its own, yielded. -/
theorem yields_one {w : World} {s : Int × Int} {t : TypeId} {g : Nat} (hg : g = w.heap.size) : Yields (w.alloc (.cells #[.int .i64 s.1, .int .i64 s.2] t)) (.slice (some ⟨g, 0, none⟩) 1 1) 1 2 [.int .i64 s.1, .int .i64 s.2] := by
  subst hg
  refine ⟨rfl, fun u hu => ?_, .inr ⟨_, _, rfl, fun j u hj => ?_⟩⟩
  · simp at hu
    rcases hu with rfl | rfl <;> rfl
  · have h := cell_of_row _ w.heap.size j _ t _ (heap_alloc_new w (.cells #[.int .i64 s.1, .int .i64 s.2] t))
    rw [addr_add, Nat.zero_add, h]
    simpa using hj

theorem eqState_any (a b c d : Int) (w : World) : (Op.equalIn 10000 33 (.agg #[.int .i64 a, .int .i64 b]) (.agg #[.int .i64 c, .int .i64 d])).run Tryz.prog w = .ok (decide ((a, b) = (c, d))) w := by
  go_simp
  by_cases h1 : a = c <;> by_cases h2 : b = d <;> simp [h1, h2]

theorem infoState : (Tryz.prog.info? 33).map (fun i => (i.zero, i.size, i.bytes)) = some (some (.agg #[.int .i64 0, .int .i64 0]), 2, 16) := by kernel_rfl
end Go.Proofs.YtgakcaobalfpjaaGreatDoor.M

/- Part: DiskRef7. -/
namespace Go.Proofs.YtgakcaobalfpjaaGreatDoor.M
open Go.RowKit
open D (Fl Dk)

theorem flCells_set : ∀ (fv : List (Fl × Value)) (i j : Nat) (h : i < fv.length) (p : Fl × Value) (x : Value), j < 3 → flV p = (flV fv[i]).set j x → (flCells fv).set (i * 3 + j) x = flCells (fv.set i p)
  | q :: r, 0, j, _, p, x, hj, hs => by
    simp only [flCells, List.flatMap_cons, List.set_cons_zero, List.getElem_cons_zero] at hs ⊢
    rw [hs, List.set_append_left _ _ (by simp [flV]; omega)]
    simp
  | q :: r, i + 1, j, h, p, x, hj, hs => by
    have ih := flCells_set r i j (by simpa using h) p x hj (by simpa using hs)
    simp only [flCells, List.flatMap_cons, List.set_cons_succ] at ih ⊢
    rw [List.set_append_right _ _ (by simp [flV]; omega), ← ih]
    congr 2
    simp [flV]; omega

/-- A disk, one file of which has turned: its bytes' block may have turned ahead of it. -/
theorem DkAt.put {w w1 : World} {X Y : Nat → Prop} {gd ga c i j : Nat} {d : Dk} {fv : List (Fl × Value)} {p : Fl × Value} {x : Value} (hat : DkAt w X gd d (.slice (some ⟨ga, 0, none⟩) fv.length c) fv) (hi : i < fv.length) (hXY : ∀ k, X k → Y k)
    (hX : ∀ k, X k → k < w.heap.size) (hw1 : ∀ k, k < w.heap.size → fv[i].2.ownBlock ≠ some k → w1.heap[k]? = w.heap[k]?) (hj : j < 3) (hs : flV p = (flV fv[i]).set j x)
    (hrow : w1.ownsRow 0 5 1 p.2 p.1.b.length (p.1.b.map byteV)) (hob : ∀ k, p.2.ownBlock = some k → fv[i].2.ownBlock = some k ∨ (Y k ∧ w.heap.size ≤ k)) :
    DkAt (w1.setCell ⟨ga, i * 3 + j, none⟩ x) Y gd { d with fs := d.fs.set i p.1 } (.slice (some ⟨ga, 0, none⟩) fv.length c) (fv.set i p) := by
  have hap := hat.apart
  rw [blocksOf, List.cons_append, List.nodup_cons] at hap
  obtain ⟨hgd, hap⟩ := hap
  obtain ⟨hv1, hf1, hvf⟩ := List.nodup_append.1 hap
  have hgam : ga ∈ (Value.slice (some ⟨ga, 0, none⟩) fv.length c).ownBlock.toList := by simp [Value.ownBlock]
  have hgagd : ga ≠ gd := fun e => hgd (List.mem_append.2 (.inl (e ▸ hgam)))
  have hgX : ga < w.heap.size := hX ga (hat.foot ga (mem_blocks_vl rfl))
  have hgdX : gd < w.heap.size := hX gd hat.own
  have hin : ∀ (q : Fl × Value), q ∈ fv → ∀ k, q.2.ownBlock = some k → k ∈ fv.flatMap fun p : Fl × Value => p.2.ownBlock.toList := fun q hq k hk => List.mem_flatMap.2 ⟨q, hq, by simp [hk]⟩
  have hfb : ∀ (q : Fl × Value), q ∈ fv → ∀ k, q.2.ownBlock = some k → k < w.heap.size ∧ k ≠ ga ∧ k ≠ gd := fun q hq k hk =>
    ⟨hX k (hat.foot k (mem_blocks_file hq hk)), fun e => hvf ga hgam k (hin q hq k hk) e.symm, fun e => hgd (List.mem_append.2 (.inr (e ▸ hin q hq k hk)))⟩
  have hia : fv[i].2.ownBlock ≠ some ga := fun h => (hfb _ (List.getElem_mem hi) ga h).2.1 rfl
  have hig : fv[i].2.ownBlock ≠ some gd := fun h => (hfb _ (List.getElem_mem hi) gd h).2.2 rfl
  -- the list of blocks behind the turn
  have hsplit : fv = fv.take i ++ fv[i] :: fv.drop (i + 1) := parts_of_list fv i hi
  have hset : fv.set i p = fv.take i ++ p :: fv.drop (i + 1) := List.set_eq_take_append_cons_drop.trans (by rw [if_pos hi])
  have hnd : ((fv.set i p).flatMap fun p : Fl × Value => p.2.ownBlock.toList).Nodup := by
    rw [hsplit, List.flatMap_append, List.flatMap_cons] at hf1
    rw [hset, List.flatMap_append, List.flatMap_cons]
    obtain ⟨a1, a2, a3⟩ := List.nodup_append.1 hf1
    obtain ⟨b1, b2, b3⟩ := List.nodup_append.1 a2
    have hold : ∀ q : Fl × Value, q ∈ fv → ∀ k, k ∈ q.2.ownBlock.toList → k < w.heap.size := fun q hq k hk => (hfb q hq k (by simpa using hk)).1
    refine List.nodup_append.2 ⟨a1, List.nodup_append.2 ⟨by cases p.2.ownBlock <;> simp, b2, fun y hy z hz e => ?_⟩, fun y hy z hz e => ?_⟩
    · subst e
      rcases hob y (by simpa using hy) with h | ⟨-, h⟩
      · exact b3 y (by simp [h]) y hz rfl
      · obtain ⟨q, hq, hk⟩ := List.mem_flatMap.1 hz
        have := hold q (List.mem_of_mem_drop hq) y hk
        omega
    · subst e
      rcases List.mem_append.1 hz with hz | hz
      · rcases hob y (by simpa using hz) with h | ⟨-, h⟩
        · exact a3 y hy y (List.mem_append.2 (.inl (by simp [h]))) rfl
        · obtain ⟨q, hq, hk⟩ := List.mem_flatMap.1 hy
          have := hold q (List.mem_of_mem_take hq) y hk
          omega
      · exact a3 y hy y (List.mem_append.2 (.inr hz)) rfl
  have hmem : ∀ q ∈ fv.set i p, (q ∈ fv ∧ ∀ k, q.2.ownBlock = some k → fv[i].2.ownBlock ≠ some k) ∨ q = p := fun q hq => by
    rw [hset] at hq
    have hf2 := hf1
    rw [hsplit, List.flatMap_append, List.flatMap_cons] at hf2
    obtain ⟨a1, a2, a3⟩ := List.nodup_append.1 hf2
    obtain ⟨b1, b2, b3⟩ := List.nodup_append.1 a2
    rcases List.mem_append.1 hq with h | h
    · exact .inl ⟨List.mem_of_mem_take h, fun k hk h2 => a3 k (List.mem_flatMap.2 ⟨q, h, by simp [hk]⟩) k (List.mem_append.2 (.inl (by simp [h2]))) rfl⟩
    · rcases List.mem_cons.1 h with h | h
      · exact .inr h
      · exact .inl ⟨List.mem_of_mem_drop h, fun k hk h2 => b3 k (by simp [h2]) k (List.mem_flatMap.2 ⟨q, h, by simp [hk]⟩) rfl⟩
  have hfoot : ∀ k, (∃ q ∈ fv.set i p, q.2.ownBlock = some k) → Y k ∧ k ≠ ga ∧ k ≠ gd := fun k ⟨q, hq, hk⟩ => by
    rcases hmem q hq with ⟨h, -⟩ | rfl
    · exact ⟨hXY k (hat.foot k (mem_blocks_file h hk)), (hfb q h k hk).2⟩
    · rcases hob k hk with h | ⟨h1, h2⟩
      · exact ⟨hXY k (hat.foot k (mem_blocks_file (List.getElem_mem hi) h)), (hfb _ (List.getElem_mem hi) k h).2⟩
      · exact ⟨h1, by omega, by omega⟩
  have hrow1 : w1.ownsRow 0 83 3 (.slice (some ⟨ga, 0, none⟩) fv.length c) fv.length (flCells fv) := ownsRow_same hat.row fun k hk => by
    have e : ga = k := by simpa [Value.ownBlock] using hk
    subst e
    exact hw1 ga hgX hia
  obtain ⟨cc, hb, hcc⟩ := hat.box
  refine ⟨⟨cc, ?_, hcc⟩, ?_, ?_, fun q hq => ?_, ?_, fun k hk => ?_⟩
  · rw [Below.heap_setCell _ _ _ _ (by simpa using hgagd.symm), hw1 gd hgdX hig]
    exact hb
  · show (fv.set i p).map (·.1) = d.fs.set i p.1
    rw [List.map_set, hat.fs]
  · have := (hrow1.stored (i * 3 + j) x).1
    rw [flCells_set fv i j hi p x hj hs] at this
    rw [List.length_set]
    exact this
  · refine ownsRow_same (w := w1) ?_ fun k hk => ?_
    · rcases hmem q hq with ⟨h, hne⟩ | rfl
      · exact ownsRow_same (hat.each q h) fun k hk => hw1 k (hfb q h k hk).1 (hne k hk)
      · exact hrow
    · have := (hfoot k ⟨q, hq, hk⟩).2.1
      rw [Below.heap_setCell _ _ _ _ (by simpa using this)]
  · rw [blocksOf, List.cons_append, List.nodup_cons]
    refine ⟨fun hm => ?_, List.nodup_append.2 ⟨hv1, hnd, fun y hy z hz e => ?_⟩⟩
    · rcases List.mem_append.1 hm with hm | hm
      · exact hgd (List.mem_append.2 (.inl hm))
      · obtain ⟨q, hq, hk⟩ := List.mem_flatMap.1 hm
        exact (hfoot gd ⟨q, hq, by simpa using hk⟩).2.2 rfl
    · have e2 : ga = y := (show y = ga by simpa [Value.ownBlock] using hy).symm
      subst e2
      obtain ⟨q, hq, hk⟩ := List.mem_flatMap.1 hz
      exact (hfoot z ⟨q, hq, by simpa using hk⟩).2.1 e.symm
  · rw [blocksOf, List.cons_append, List.mem_cons, List.mem_append, List.mem_flatMap] at hk
    rcases hk with rfl | hk | ⟨q, hq, hk⟩
    · exact hXY _ hat.own
    · exact hXY k (hat.foot k (by rw [blocksOf, List.cons_append, List.mem_cons, List.mem_append]; exact .inr (.inl hk)))
    · exact (hfoot k ⟨q, hq, by simpa using hk⟩).1

theorem modify_set {α : Type} (l : List α) (f : α → α) (i : Nat) (h : i < l.length) : l.modify i f = l.set i (f l[i]) := by
  apply List.ext_getElem?
  intro j
  rw [List.getElem?_modify, List.getElem?_set]
  by_cases e : i = j
  · subst e
    simp [h]
  · simp [e]

theorem find_names {fs gs : List Fl} (h : fs.map (·.nm) = gs.map (·.nm)) (s : ByteArray) : D.find fs s = D.find gs s := by
  have e : ∀ l : List Fl, D.find l s = (l.map (·.nm)).findIdx fun n => n.toList == s.toList := fun l => by
    unfold D.find
    induction l with
    | nil => rfl
    | cons a l ih => simp [List.findIdx_cons, ih]
  rw [e, e, h]

theorem syncAt_names (fs : List Fl) (i : Nat) : (D.syncAt fs i).map (·.nm) = fs.map (·.nm) := by
  unfold D.syncAt
  apply List.ext_getElem?
  intro j
  simp only [List.getElem?_map, List.getElem?_modify]
  by_cases e : i = j
  · subst e
    cases fs[i]? <;> simp
  · simp [e]

theorem syncs_names : ∀ (names : List ByteArray) (fs : List Fl), (names.foldl (fun fs s => D.syncAt fs (D.find fs s)) fs).map (·.nm) = fs.map (·.nm)
  | [], _ => rfl
  | _ :: r, fs => (syncs_names r _).trans (syncAt_names fs _)

theorem sync_32 {d : Dk} {names : List ByteArray} (h : d.stopped = true) : D.sync d names = (32, d) := by unfold D.sync; rw [if_pos h]

theorem sync_30 {d : Dk} {names : List ByteArray} (h : d.stopped = false) (hn : names.all (D.isThere d.fs) = false) : D.sync d names = (30, d.tick) := by
  unfold D.sync
  rw [if_neg (by rw [h]; simp)]
  simp only [tick_fs]
  rw [if_pos hn]

theorem sync_0 {d : Dk} {names : List ByteArray} (h : d.stopped = false) (hn : names.all (D.isThere d.fs) = true) : D.sync d names = (0, { d.tick with fs := names.foldl (fun fs s => D.syncAt fs (D.find fs s)) d.fs }) := by
  unfold D.sync
  rw [if_neg (by rw [h]; simp)]
  simp only [tick_fs]
  rw [if_neg (by rw [hn]; simp)]
end Go.Proofs.YtgakcaobalfpjaaGreatDoor.M

/- Part: DiskRef8. -/
namespace Go.Proofs.YtgakcaobalfpjaaGreatDoor.M
open Go.RowKit
open D (Fl Dk)

/-- The state at the head of the loop that makes files safe. -/
def SyncAt (w1 : World) (X : Nat → Prop) (gd : Nat) (d : Dk) (vl : Value) (names : List ByteArray) (k : Nat) (wr : World) : Prop :=
  k ≤ names.length ∧ Only X w1 wr ∧ wr.heap.size = w1.heap.size ∧ ∃ fv, DkAt wr X gd { d with fs := (names.take k).foldl (fun fs s => D.syncAt fs (D.find fs s)) d.fs } vl fv

theorem SyncAt.drew {w1 wr : World} {X : Nat → Prop} {gd k : Nat} {d : Dk} {vl : Value} {names : List ByteArray} (h : SyncAt w1 X gd d vl names k wr) : SyncAt w1 X gd d vl names k wr.drew := by
  obtain ⟨h1, h2, h3, fv, h4⟩ := h
  exact ⟨h1, ⟨h2.os, h2.tape, h2.output, h2.size, h2.block⟩, h3, fv, h4.same (fun _ h => h) fun _ _ => rfl⟩

set_option maxRecDepth 20000 in
set_option maxHeartbeats 3200000 in
theorem RefSync_any (d : Dk) (X : Nat → Prop) (gd : Nat) (names : List ByteArray) (F : Nat → Prop) (vn : Value) (w : World) (hd : DskIn w X gd d) (hf : Hid (Fine d)) (hv : RepSl w F names vn) (hF : ∀ k, F k → k < w.heap.size ∧ ¬ X k) :
    Calls Tryz.prog 35 #[.pointer (some ⟨gd, 0, none⟩), vn] w (CallPost w X gd (D.sync d names)) := by
  obtain ⟨na, nc, rfl, hnl⟩ := hv.slice
  have HX := Lib.hid hd.2
  have HD := Lib.hid hd.1
  have HV := Lib.hid hv
  have HF := Lib.hid hF
  clear hd hv hF
  cases hst : d.stopped with
  | true =>
    have HR : Hid (D.sync d names = (32, d)) := Lib.hid (sync_32 hst)
    have HT := Lib.hid (stopped_tick hst)
    have HST := Lib.hid hst
    clear hst
    go_enter Tryz.func35, Tryz.ntmps35
    go_wp2_with fail
    refine (RefStopped_any d X gd _ HD.out (Lib.hid hf.out.2.1)).mono ?_
    rintro e w1 ⟨rfl, ho, hd1, hs1⟩
    rw [HST.out]
    rw [HT.out] at hd1
    have HO := Lib.hid ho
    have HD1 := Lib.hid hd1
    clear ho hd1 hs1
    go_wp2_with fail
    go_ret
    exact ⟨by rw [HR.out]; rfl, HO.out, by rw [HR.out]; exact HD1.out.up⟩
  | false =>
    have HST := Lib.hid hst
    clear hst
    go_enter Tryz.func35, Tryz.ntmps35
    go_wp2_with fail
    refine (RefStopped_any d X gd _ HD.out (Lib.hid hf.out.2.1)).mono ?_
    rintro e w1 ⟨rfl, ho, hd1, hs1⟩
    rw [HST.out]
    have HO := Lib.hid ho
    have HD1 := Lib.hid hd1
    have HS1 := Lib.hid hs1
    have hv1 : RepSl w1 (fun k => F k) names (.slice na names.length nc) := HV.out.same (fun _ h => h) fun k hk => ho.block k (HF.out k hk).1 (HF.out k hk).2
    have HV1 := Lib.hid hv1
    clear ho hd1 hs1 hv1
    go_wp2_with fail
    go_loop [5] (fun i => ∃ k : Nat, k ≤ names.length ∧ i = .int .i64 (k : Int) ∧ Hid ((names.take k).all (D.isThere d.fs) = true)) (fun i => names.length - (intOf i).toNat)
    case atStart => exact ⟨0, Nat.zero_le _, rfl, Lib.hid rfl⟩
    case round =>
      obtain ⟨k, hk, rfl, HA⟩ := hrel
      by_cases hlt : k < names.length
      · have hkk : (k : Int) < (names.length : Int) := by omega
        obtain ⟨b, off, rfl, hFb, hc⟩ := HV1.out.elem k hlt
        have hbz : b < w1.heap.size := by rw [HS1.out]; exact (HF.out b hFb).1
        obtain ⟨s, hs⟩ : ∃ s, s = names[k] := ⟨_, rfl⟩
        rw [← hs] at hc
        have HSN := Lib.hid hs
        clear hs
        go_wp2_with fail
        refine (RefFind_any d.tick X gd s _ HD1.out).mono ?_
        rintro e w' ⟨rfl, rfl⟩
        rw [tick_fs]
        cases hta : D.isThere d.fs s with
        | false =>
          have HE : Hid (D.sync d names = (30, d.tick)) := Lib.hid (sync_30 HST.out (by
            rw [List.all_eq_false]
            exact ⟨names[k], List.getElem_mem hlt, by rw [← HSN.out, hta]; simp⟩))
          rw [findR_neg hta]
          clear hta
          go_wp2_with fail
          go_ret
          exact ⟨by rw [HE.out]; rfl, HO.out, by rw [HE.out]; exact HD1.out.up⟩
        | true =>
          obtain ⟨h1, h2⟩ := findR_pos hta
          rw [h1]
          have HN : Hid ((names.take (k + 1)).all (D.isThere d.fs) = true) := Lib.hid (by
            rw [List.take_succ_eq_append_getElem hlt, List.all_append, HA.out, ← HSN.out]
            simp [hta])
          clear h1 h2 hta
          go_wp2_with fail
          go_round
          case rel => exact ⟨k + 1, by omega, by go_num, HN⟩
          case measure => simp [intOf]; omega
      · have hkk : ¬ (k : Int) < (names.length : Int) := by omega
        obtain rfl : k = names.length := by omega
        have HALL : Hid (names.all (D.isThere d.fs) = true) := Lib.hid (by
          have := HA.out
          rw [List.take_length] at this
          exact this)
        obtain ⟨vl, fv, hat⟩ := HD1.out
        have HS0 : Hid (SyncAt w1 X gd d.tick vl names 0 w1) := Lib.hid ⟨Nat.zero_le _, Only.refl _ _, rfl, fv, by simpa using hat⟩
        have HFX : Hid (∀ k, X k → k < w1.heap.size) := Lib.hid fun k hk => by rw [HS1.out]; exact HX.out k hk
        clear hat
        go_wp2_with fail
        go_loopw [6, 7] (fun i _ wr => ∃ k : Nat, i = .int .i64 (k : Int) ∧ SyncAt w1 X gd d.tick vl names k wr) (fun i _ _ => names.length - (intOf i).toNat)
        case atStart => exact ⟨0, rfl, HS0.out⟩
        case round =>
          obtain ⟨k, rfl, hat⟩ := hrel
          obtain ⟨hk2, ho, hsz, fv, hat⟩ := hat
          have HOW := Lib.hid ho
          have HSZ := Lib.hid hsz
          have HAT := Lib.hid hat
          clear ho hsz hat
          by_cases hlt2 : k < names.length
          · have hkk2 : (k : Int) < (names.length : Int) := by omega
            have hv2 : RepSl wr (fun k => F k) names (.slice na names.length nc) := HV1.out.same (fun _ h => h) fun j hj => HOW.out.block j (by rw [HS1.out]; exact (HF.out j hj).1) (HF.out j hj).2
            obtain ⟨b, off, rfl, hFb, hc⟩ := hv2.elem k hlt2
            have hbz : b < wr.heap.size := by rw [HSZ.out, HS1.out]; exact (HF.out b hFb).1
            obtain ⟨s, hs⟩ : ∃ s, s = names[k] := ⟨_, rfl⟩
            rw [← hs] at hc
            obtain ⟨fs, hfs⟩ : ∃ fs, fs = (names.take k).foldl (fun fs s => D.syncAt fs (D.find fs s)) d.tick.fs := ⟨_, rfl⟩
            have hat := HAT.out
            rw [← hfs] at hat
            have hth : D.isThere fs s = true := by
              have h1 := List.all_eq_true.1 HALL.out s (by rw [hs]; exact List.getElem_mem hlt2)
              have h2 : fs.map (·.nm) = d.fs.map (·.nm) := by rw [hfs, syncs_names, tick_fs]
              have h3 : fs.length = d.fs.length := by simpa using congrArg List.length h2
              unfold D.isThere at h1 ⊢
              rw [find_names h2, h3]; exact h1
            obtain ⟨q1, q2⟩ := findR_pos hth
            obtain ⟨i, hi⟩ : ∃ i, i = D.find fs s := ⟨_, rfl⟩
            rw [← hi] at q1 q2
            have hfl : fs.length = fv.length := hat.len.2
            have hil : i < fv.length := by omega
            obtain ⟨cc, ⟨-, c1, -, -⟩, -, hz, -, -⟩ := hat.cells
            obtain ⟨ga, c, rfl, hXa, -, hgz, hnc, hcm, -, e1, e2, hfz⟩ := hat.file i hil
            obtain ⟨ba, bc, hb, hbl⟩ := hat.bytes i hil
            obtain ⟨n, hn⟩ : ∃ n, n = fv[i].1.b.length := ⟨_, rfl⟩
            obtain ⟨sf, hsf⟩ : ∃ sf, sf = fv[i].1.safe := ⟨_, rfl⟩
            have HDS : Hid (Dsk wr X gd { d.tick with fs := fs }) := Lib.hid ⟨_, fv, hat⟩
            rw [hb, ← hn] at e1
            rw [← hsf] at e2
            have f2 := hfz (i * 3 + 2)
            have hgt := hat.get i hil (by show i < fs.length; omega)
            have HNX : Hid (SyncAt w1 X gd d.tick (.slice (some ⟨ga, 0, none⟩) fv.length c) names (k + 1) (wr.setCell ⟨ga, i * 3 + 2, none⟩ (.int .i64 (n : Int)))) := Lib.hid (by
              refine ⟨by omega, HOW.out.set (.inl hXa) _, by simp [HSZ.out], fv.set i ({ fv[i].1 with safe := n }, fv[i].2), ?_⟩
              have hp := hat.put (Y := X) (w1 := wr) (p := ({ fv[i].1 with safe := n }, fv[i].2)) (j := 2) (x := .int .i64 (n : Int)) hil (fun _ h => h) (fun j hj => by rw [HSZ.out]; exact HFX.out j hj) (fun _ _ _ => rfl) (by omega) (by simp [flV]) (hat.each (fv[i]) (List.getElem_mem hil)) (fun _ h => .inl h)
              have e : (names.take (k + 1)).foldl (fun fs s => D.syncAt fs (D.find fs s)) d.tick.fs = fs.set i { fv[i].1 with safe := n } := by
                rw [List.take_succ_eq_append_getElem hlt2, List.foldl_append, ← hfs, ← hs]
                simp only [List.foldl_cons, List.foldl_nil]
                rw [← hi]
                unfold D.syncAt
                rw [modify_set _ _ _ q2, hn, hgt]
              simp only at hp ⊢
              rw [e]
              exact hp)
            have Q1 := Lib.hid q1
            have hil2 : (i : Int) < (fv.length : Int) := by omega
            have hnl2 : (n : Int) ≤ 9223372036854775807 := by omega
            clear hfs hat hth q1 q2 hi hfl hb hn hsf hgt hs hv2 hbl hfz
            go_wp2_with fail
            refine (RefFind_any _ X gd s _ HDS.out).mono ?_
            rintro e w' ⟨rfl, rfl⟩
            rw [show ({ d.tick with fs := fs } : Dk).fs = fs from rfl, Q1.out]
            go_wp2_with fail
            go_still_tail 16, (by kernel_rfl)
            go_wp2_with fail
            go_roundw
            case rel => exact ⟨k + 1, by go_num, HNX.out.drew⟩
            case measure => simp [intOf]; omega
          · have hkk2 : ¬ (k : Int) < (names.length : Int) := by omega
            obtain rfl : k = names.length := by omega
            have HE : Hid (D.sync d names = _) := Lib.hid (sync_0 HST.out HALL.out)
            go_wp2_with fail
            go_ret
            refine ⟨by rw [HE.out]; rfl, HO.out.trans (HOW.out.mono fun k hk => .inl hk), ?_⟩
            rw [HE.out]
            have := HAT.out
            simp only [List.take_length, tick_fs] at this
            exact Dsk.up ⟨_, _, this⟩
end Go.Proofs.YtgakcaobalfpjaaGreatDoor.M

/- Part: DiskRef9. -/
namespace Go.Proofs.YtgakcaobalfpjaaGreatDoor.M
open Go.RowKit
open D (Fl Dk)

theorem ownsRow_cut {w : World} {a : Option Addr} {c n : Nat} {L : List UInt8} (h : w.ownsRow 0 5 1 (.slice a L.length c) L.length (L.map byteV)) (hn : n ≤ L.length) :
    w.ownsRow 0 5 1 (.slice a n c) (L.take n).length ((L.take n).map byteV) := by
  have hl : (L.take n).length = n := by simp; omega
  rw [hl]
  refine ⟨by simp; omega, ?_⟩
  rcases h.2 with ⟨h1, h2⟩ | ⟨g, cap, cur, hv, hg, hcur, h1, h2, h3, h4⟩
  · simp only [Value.slice.injEq] at h1
    obtain ⟨h5, h6, h7⟩ := h1
    refine .inl ⟨?_, by omega⟩
    rw [h5, h7, show n = 0 by omega]
  · simp only [Value.slice.injEq] at hv
    obtain ⟨h5, -, h7⟩ := hv
    refine .inr ⟨g, cap, cur, by rw [h5, h7], hg, hcur, by omega, h2, h3, ?_⟩
    rw [List.map_take, ← h4, List.take_take, Nat.mul_one, Nat.min_eq_left (by omega)]

theorem cut_32 {d : Dk} {s : ByteArray} {n : Int} (h : d.stopped = true) : D.cut d s n = (32, d) := by unfold D.cut; rw [if_pos h]

theorem cut_30 {d : Dk} {s : ByteArray} {n : Int} (h : d.stopped = false) (hn : D.isThere d.fs s = false) : D.cut d s n = (30, d.tick) := by
  unfold D.cut
  rw [if_neg (by rw [h]; simp)]
  simp only [tick_fs]
  unfold D.isThere at hn
  rw [List.getElem?_eq_none (by simpa using hn)]

theorem cut_2 {d : Dk} {s : ByteArray} {n : Int} (h : d.stopped = false) (hi : D.find d.fs s < d.fs.length) (hn : n < 0 ∨ (d.fs[D.find d.fs s].b.length : Int) < n) : D.cut d s n = (2, d.tick) := by
  unfold D.cut
  rw [if_neg (by rw [h]; simp)]
  simp only [tick_fs]
  rw [List.getElem?_eq_getElem hi]
  simp only
  rw [if_pos hn]

theorem cut_0 {d : Dk} {s : ByteArray} {n : Int} (h : d.stopped = false) (hi : D.find d.fs s < d.fs.length) (hn : ¬ (n < 0 ∨ (d.fs[D.find d.fs s].b.length : Int) < n)) :
    D.cut d s n = (0, { d.tick with fs := d.fs.set (D.find d.fs s) { d.fs[D.find d.fs s] with b := d.fs[D.find d.fs s].b.take n.toNat, safe := min d.fs[D.find d.fs s].safe n.toNat } }) := by
  unfold D.cut
  rw [if_neg (by rw [h]; simp)]
  simp only [tick_fs]
  rw [List.getElem?_eq_getElem hi]
  simp only
  rw [if_neg hn, modify_set _ _ _ hi]

end Go.Proofs.YtgakcaobalfpjaaGreatDoor.M
