/- The document's examples of hard states, as law 4's statements begin with them. The document's hard state: Follows, Read. The law HardFollows. Hard states as they come in. The table of package sum, as the statements' rows lay it. -/
import Derived.Test.YtikcdchmggdmdaaDoorHA7
import Derived.Lib.SlBytesConst
import Derived.Test.YtikcdchmggdmdaaDoorHA6
import Derived.Test.YtikcdchmggdmdaaDoorHA5
import Derived.Test.YtikcdchmggdmdaaDoorHA4
import Derived.ProofKit
import Derived.OpenShut
import Derived.ChangeSame
import Derived.Test.YtikcdchmggdmdaaDoorCards
import Derived.Test.YtikcdchmggdmdaaDoorTie
import Derived.Deep.DeepHandedRow
import Derived.Lib.LaidTab
/- Part: HardLaw. -/
namespace Go.Proofs.YtikcdchmggdmdaaDoor.M
open Go.RowKit Go.Maps
open D (Fl Dk)

def y1 : Dk := fresh 1000
def y2 : Dk := (save y1 (0, -1) (1, 2)).2
def y3 : Dk := (save y2 (1, 2) (2, -1)).2
def y4 : Dk := (save y3 (2, -1) (2, 0)).2
def y5 : Dk := (save (D.stop y4 1) (2, 0) (3, 0)).2
def y6 : Dk := (D.crash y5 []).2

theorem ey_0 : (newest y1.fs).2.2 = (0, -1) ∧ D.used y1.fs = 0 := by decide +kernel
theorem ey_1 : (save y1 (0, -1) (1, 2)).1 = 0 ∧ D.used y2.fs ≤ 1000 := by decide +kernel
theorem ey_2 : (save y2 (1, 2) (2, -1)).1 = 0 ∧ D.used y3.fs ≤ 1000 := by decide +kernel
theorem ey_3 : (save y3 (2, -1) (2, 0)).1 = 0 ∧ D.used y4.fs ≤ 1000 := by decide +kernel
theorem ey_4 : (save (D.stop y4 1) (2, 0) (3, 0)).1 = 32 ∧ D.used y5.fs ≤ 1000 := by decide +kernel
theorem ey_5 : (newest y6.fs).2.2 = (2, 0) ∧ D.used y6.fs ≤ 1000 := by decide +kernel
theorem ey_b : save y2 (1, 2) (1, 3) = (2, y2) := by
  unfold save; rw [if_pos (.inl (by decide))]
theorem ey_c : save y2 (1, 2) (0, -1) = (2, y2) := by
  unfold save; rw [if_pos (.inl (by decide))]

set_option maxRecDepth 20000 in
set_option maxHeartbeats 1600000 in
theorem made_any (n : Int) (w : World) (h0 : 0 ≤ n) (h1 : n ≤ 9223372036854775807) :
    Calls Tryd.prog 9 #[.int .i64 n] w fun e w' => ∃ gd gr X, e = .returned (.tuple #[.pointer (some ⟨gd, 0, none⟩), .pointer (some ⟨gr, 0, none⟩)]) ∧ DS w X gd (fresh n) w' ∧
      w.heap.size ≤ gr ∧ ¬ X gr ∧ w'.heap[gr]? = some (.cells #[.int .i64 n, .slice none 0 0, .bool false, .int .i64 0] 50) := by
  go_enter Tryd.func9, Tryd.ntmps9
  go_wp2_with fail
  refine (New_any n w h0).mono ?_
  rintro e w1 ⟨rfl, hb1, hz1, hd1⟩
  have HD : Hid (DS w (fun k => w.heap.size ≤ k ∧ k < w.heap.size + 2) (w.heap.size + 1) (fresh n) w1) := Lib.hid ⟨hb1, fun k hk => hk.1, ⟨hd1, fun k hk => by omega⟩, fresh_well h0 h1⟩
  have HZ := Lib.hid hz1
  clear hb1 hd1 hz1
  go_wp2_with fail
  go_ret2
  refine ⟨w.heap.size + 1, w1.heap.size, _, rfl, HD.out.alloc _, by have := HZ.out; omega, fun h => by have := HZ.out; omega, heap_new _ _ _ rfl⟩

theorem DStop {w wr : World} {X : Nat → Prop} {gd : Nat} {d : Dk} (h : DS w X gd d wr) (n : Int) (hn : -9223372036854775808 ≤ n ∧ n ≤ 9223372036854775807) :
    Calls Tryd.prog 11 #[.pointer (some ⟨gd, 0, none⟩), .int .i64 n] wr fun e w' => e = .returned (.tuple #[]) ∧ DS w X gd (D.stop d n) w' ∧ Only X wr w' ∧ w'.heap.size = wr.heap.size :=
  (PStop_any d X gd wr n h.dsk.1 hn).mono fun e w' ⟨he, ho, hp, hz⟩ => ⟨he, ⟨⟨ho.os.trans h.below.os, ho.tape.trans h.below.tape, ho.output.trans h.below.output, Nat.le_trans h.below.size ho.size, fun k hk => by
    rw [ho.block k (Nat.lt_of_lt_of_le hk h.below.size) fun hx => by have := h.own k hx; omega]
    exact h.below.block k hk⟩, h.own, ⟨hp, fun k hk => by rw [hz]; exact h.lt k hk⟩, stop_well h.well hn.2⟩, ho, hz⟩

theorem HS.stop {w wr : World} {X : Nat → Prop} {gd gh : Nat} {d : Dk} {has : Int × Int} (h : HS w X gd gh d has wr) (n : Int) (hn : -9223372036854775808 ≤ n ∧ n ≤ 9223372036854775807) :
    Calls Tryd.prog 11 #[.pointer (some ⟨gd, 0, none⟩), .int .i64 n] wr fun e w' => e = .returned (.tuple #[]) ∧ HS w X gd gh (D.stop d n) has w' ∧ Only X wr w' ∧ w'.heap.size = wr.heap.size :=
  (DStop h.ds n hn).mono fun e w' ⟨he, hd, ho, hz⟩ => ⟨he, ⟨hd, (ho.block _ (lt_of_heap h.blk) h.out).trans h.blk, h.out, h.new⟩, ho, hz⟩

theorem HS.crash {w wr : World} {X : Nat → Prop} {gd gh : Nat} {d : Dk} {has : Int × Int} (h : HS w X gd gh d has wr) (ks : List Int) (F : Nat → Prop) (vk : Value) (hv : RepI wr F ks vk) (hF : ∀ k, F k → k < wr.heap.size ∧ ¬ X k) :
    Calls Tryd.prog 13 #[.pointer (some ⟨gd, 0, none⟩), vk] wr fun e w' => e = .returned (.int .i64 (((D.crash d ks).1 : Nat) : Int)) ∧ ∃ X', (∀ k, X' k → X k ∨ wr.heap.size ≤ k) ∧ HS w X' gd gh (D.crash d ks).2 has w' ∧ Only X wr w' :=
  (DCrash h.ds ks F vk hv hF).mono fun e w' ⟨he, ho, X', hx, hd⟩ => ⟨he, X', hx, ⟨hd, (ho.block _ (lt_of_heap h.blk) h.out).trans h.blk, fun hg => by
    rcases hx _ hg with h1 | h1
    · exact h.out h1
    · have := lt_of_heap h.blk; omega, h.new⟩, ho⟩

theorem HS.save {w wr : World} {X : Nat → Prop} {gd gh : Nat} {d d' : Dk} {has s : Int × Int} {r : Int} (h : HS w X gd gh d has wr) (hu : D.used d.fs ≤ 1000000000) (hT : Hid (Tab w)) (hs : M.save d has s = (r, d')) :
    Calls Tryd.prog 12 #[.pointer (some ⟨gh, 0, none⟩), .agg #[.int .i64 s.1, .int .i64 s.2]] wr fun e w' => e = .returned (.int .i64 r) ∧ ∃ X', (∀ k, X' k → X k ∨ wr.heap.size ≤ k) ∧ HS w X' gd gh d' (if r = 0 then s else has) w' :=
  (Save_any d X gd gh has s w wr h hu hT).mono fun e w' hp => by
    unfold SPost at hp
    rw [hs] at hp
    exact hp

theorem eq_of {d' : Dk} {r : Int × Dk} {x : Int} (h1 : r.1 = x) (h2 : d' = r.2) : r = (x, d') := by
  subst h1 h2; rfl

theorem RepI.nil {w : World} {F : Nat → Prop} : RepI w F [] (.slice none 0 0) := .inl ⟨rfl, Bare.nil⟩

set_option maxRecDepth 20000 in
set_option maxHeartbeats 6400000 in
theorem awake4_any (w : World) (hT : Hid (Tab w)) : Calls Tryd.prog 6 #[] w fun e w' => e = .returned (.bool true) ∧ Below w.heap.size w w' := by
  go_enter Tryd.func6, Tryd.ntmps6
  go_wp2_with fail
  refine (made_any 1000 w (by omega) (by omega)).mono ?_
  rintro e w1 ⟨gd, gr, X1, rfl, hd1, -, -, -⟩
  have H1 : Hid (DS w X1 gd y1 w1) := Lib.hid hd1
  clear hd1
  go_wp2_with fail
  refine (Open_any y1 X1 gd w1 H1.out.dsk H1.out.well.1.2.1 (by rw [ey_0.2]; decide) (H1.out.tab hT)).mono ?_
  rintro e w2 ⟨gh, rfl, hb2, hg2, hk2⟩
  rw [ey_0.1] at hk2
  have H2 : Hid (HS w X1 gd gh y1 (0, -1) w2) := Lib.hid ⟨H1.out.next hb2, hk2, fun h => by have := H1.out.lt _ h; omega, Nat.le_trans H1.out.below.size hg2⟩
  clear hb2 hg2
  obtain ⟨b0, b1, b2, -, -, -, bz⟩ := block3 hk2
  clear hk2
  go_wp2_with fail
  clear b0 b1 b2 bz
  refine (H2.out.save (s := (1, 2)) (by rw [ey_0.2]; decide) hT (eq_of ey_1.1 (rfl : y2 = _))).mono ?_
  rintro e w3 ⟨rfl, X3, -, h3⟩
  have H3 : Hid (HS w X3 gd gh y2 (1, 2) w3) := Lib.hid h3
  clear h3
  go_wp2_with fail
  refine (H3.out.save (s := (1, 3)) (Nat.le_trans ey_1.2 (by decide)) hT ey_b).mono ?_
  rintro e w4 ⟨rfl, X4, -, h4⟩
  have H4 : Hid (HS w X4 gd gh y2 (1, 2) w4) := Lib.hid h4
  clear h4
  go_wp2_with fail
  refine (H4.out.save (s := (0, -1)) (Nat.le_trans ey_1.2 (by decide)) hT ey_c).mono ?_
  rintro e w5 ⟨rfl, X5, -, h5⟩
  have H5 : Hid (HS w X5 gd gh y2 (1, 2) w5) := Lib.hid h5
  clear h5
  go_wp2_with fail
  refine (H5.out.save (s := (2, -1)) (Nat.le_trans ey_1.2 (by decide)) hT (eq_of ey_2.1 (rfl : y3 = _))).mono ?_
  rintro e w6 ⟨rfl, X6, -, h6⟩
  have H6 : Hid (HS w X6 gd gh y3 (2, -1) w6) := Lib.hid h6
  clear h6
  go_wp2_with fail
  refine (H6.out.save (s := (2, 0)) (Nat.le_trans ey_2.2 (by decide)) hT (eq_of ey_3.1 (rfl : y4 = _))).mono ?_
  rintro e w7 ⟨rfl, X7, -, h7⟩
  have H7 : Hid (HS w X7 gd gh y4 (2, 0) w7) := Lib.hid h7
  clear h7
  go_wp2_with fail
  refine (H7.out.stop 1 (by omega)).mono ?_
  rintro e w8 ⟨rfl, h8, -, -⟩
  have H8 := Lib.hid h8
  clear h8
  go_wp2_with fail
  refine (H8.out.save (s := (3, 0)) (Nat.le_trans ey_3.2 (by decide)) hT (eq_of ey_4.1 (rfl : y5 = _))).mono ?_
  rintro e w9 ⟨rfl, X9, -, h9⟩
  have H9 : Hid (HS w X9 gd gh y5 (2, 0) w9) := Lib.hid h9
  clear h9
  go_wp2_with fail
  refine (H9.out.crash [] (fun _ => False) _ RepI.nil (fun _ h => h.elim)).mono ?_
  rintro e w10 ⟨rfl, X10, -, h10, -⟩
  have H10 : Hid (HS w X10 gd gh y6 (2, 0) w10) := Lib.hid h10
  obtain ⟨b0, b1, b2, -, -, -, bz⟩ := block3 h10.blk
  clear h10
  go_wp2_with fail
  refine (On_any y6 X10 gd w10 H10.out.ds.dsk H10.out.ds.well.1.2.1 (Nat.le_trans ey_5.2 (by decide)) (H10.out.ds.tab hT)).mono ?_
  rintro e w11 ⟨rfl, hb11⟩
  rw [ey_5.1]
  have HF : Hid (Below w.heap.size w w11) := Lib.hid (H10.out.ds.below.trans (hb11.mono H10.out.ds.below.size))
  clear hb11
  go_wp2_with fail
  go_ret
  exact ⟨rfl, HF.out⟩
end Go.Proofs.YtikcdchmggdmdaaDoor.M

/- Part: Hard1. -/
namespace Go.Proofs.YtikcdchmggdmdaaDoor.M
open Go.RowKit
open D (Fl Dk)

/-- A state as a value. -/
def stV (s : Int × Int) : Value := .agg #[.int .i64 s.1, .int .i64 s.2]

set_option maxRecDepth 20000 in
set_option maxHeartbeats 1600000 in
theorem RefFollows_any (s e : Int × Int) (w : World) :
    Calls Tryd.prog 7 #[stV s, stV e] w fun r w' => r = .returned (.bool (follows s e)) ∧ Below w.heap.size w w' := by
  obtain ⟨st, sv⟩ := s
  obtain ⟨et, ev⟩ := e
  simp only [stV]
  obtain ⟨W, hW⟩ : ∃ W, W = (w.alloc (.cells #[.int .i64 st, .int .i64 sv] 23)).alloc (.cells #[.int .i64 et, .int .i64 ev] 23) := ⟨_, rfl⟩
  have HB : Hid (Below w.heap.size w W) := Lib.hid (by rw [hW]; exact ((Below.refl _ w).alloc (Nat.le_refl _) _).alloc (by simp) _)
  have HR : ∀ r : Bool, follows (st, sv) (et, ev) = r → (Ending.returned (.bool r) = .returned (.bool (follows (st, sv) (et, ev))) ∧ Below w.heap.size w W) := fun r h => ⟨by rw [h], HB.out⟩
  rcases (show st < 0 ∨ (¬ st < 0 ∧ (sv < -1 ∨ (¬ sv < -1 ∧ (et < st ∨ (¬ et < st ∧ (st ≠ et ∨ (st = et ∧ (sv = ev ∨ (sv ≠ ev ∧ (ev = -1 ∨ ev ≠ -1)))))))))) by omega) with h | ⟨h, h | ⟨h2, h | ⟨h3, h | ⟨h4, h | ⟨h5, h | h⟩⟩⟩⟩⟩
  · have hf : follows (st, sv) (et, ev) = false := by unfold follows; simp; omega
    have HF := Lib.hid (HR _ hf)
    clear HR hf
    go_enter Tryd.func7, Tryd.ntmps7
    go_wp2_with fail
    go_ret
    rw [← hW]
    exact HF.out
  · have hf : follows (st, sv) (et, ev) = false := by unfold follows; simp; omega
    have HF := Lib.hid (HR _ hf)
    have q1 : decide (st < 0) = false := by simp; omega
    clear HR hf
    go_enter Tryd.func7, Tryd.ntmps7
    go_wp2_with fail
    go_ret
    rw [← hW]
    exact HF.out
  · have hf : follows (st, sv) (et, ev) = true := by unfold follows; simp; omega
    have HF := Lib.hid (HR _ hf)
    have q1 : decide (st < 0) = false := by simp; omega
    have q2 : decide (sv < -1) = false := by simp; omega
    clear HR hf
    go_enter Tryd.func7, Tryd.ntmps7
    go_wp2_with fail
    go_ret
    rw [← hW]
    exact HF.out
  · have hf : follows (st, sv) (et, ev) = false := by unfold follows; simp; omega
    have HF := Lib.hid (HR _ hf)
    have q1 : decide (st < 0) = false := by simp; omega
    have q2 : decide (sv < -1) = false := by simp; omega
    have q3 : decide (et < st) = false := by simp; omega
    have q4 : (st == et) = false := beq_eq_false_iff_ne.2 h
    clear HR hf
    go_enter Tryd.func7, Tryd.ntmps7
    go_wp2_with fail
    go_ret
    rw [← hW]
    exact HF.out
  · have hf : follows (st, sv) (et, ev) = true := by unfold follows; simp; omega
    have HF := Lib.hid (HR _ hf)
    have q1 : decide (st < 0) = false := by simp; omega
    have q2 : decide (sv < -1) = false := by simp; omega
    have q3 : decide (et < st) = false := by simp; omega
    have q4 : (st == et) = true := by simp [h4]
    have q5 : (sv == ev) = true := by simp [h]
    clear HR hf h4 h
    go_enter Tryd.func7, Tryd.ntmps7
    go_wp2_with fail
    go_ret
    rw [← hW]
    exact HF.out
  · have hf : follows (st, sv) (et, ev) = true := by unfold follows; simp; omega
    have HF := Lib.hid (HR _ hf)
    have q1 : decide (st < 0) = false := by simp; omega
    have q2 : decide (sv < -1) = false := by simp; omega
    have q3 : decide (et < st) = false := by simp; omega
    have q4 : (st == et) = true := by simp [h4]
    have q5 : (sv == ev) = false := beq_eq_false_iff_ne.2 h5
    have q6 : (ev == -1) = true := by simp [h]
    clear HR hf h4 h h5
    go_enter Tryd.func7, Tryd.ntmps7
    go_wp2_with fail
    go_ret
    rw [← hW]
    exact HF.out
  · have hf : follows (st, sv) (et, ev) = false := by unfold follows; simp; omega
    have HF := Lib.hid (HR _ hf)
    have q1 : decide (st < 0) = false := by simp; omega
    have q2 : decide (sv < -1) = false := by simp; omega
    have q3 : decide (et < st) = false := by simp; omega
    have q4 : (st == et) = true := by simp [h4]
    have q5 : (sv == ev) = false := beq_eq_false_iff_ne.2 h5
    have q6 : (ev == -1) = false := beq_eq_false_iff_ne.2 h
    clear HR hf h4 h h5
    go_enter Tryd.func7, Tryd.ntmps7
    go_wp2_with fail
    go_ret
    rw [← hW]
    exact HF.out

end Go.Proofs.YtikcdchmggdmdaaDoor.M

/- Part: LawHFollows. -/
namespace Go.Proofs.YtikcdchmggdmdaaDoor.M
open Go.RowKit Go.Maps
open D (Fl Dk)

theorem RepSts.two {w : World} {s s2 : Int × Int} {t : TypeId} {g : Nat} (hg : g = w.heap.size) :
    RepSts (w.alloc (.cells #[.int .i64 s.1, .int .i64 s.2, .int .i64 s2.1, .int .i64 s2.2] t)) (fun k => k = g) [s, s2] (.slice (some ⟨g, 0, none⟩) 2 2) := by
  subst hg
  have h := fun j => cell_of_row _ w.heap.size j _ t _ (heap_alloc_new w (.cells #[.int .i64 s.1, .int .i64 s.2, .int .i64 s2.1, .int .i64 s2.2] t))
  refine .inr ⟨w.heap.size, 0, 2, rfl, rfl, Nat.le_refl _, by omega, fun i hi => ?_⟩
  match i, hi with
  | 0, _ => exact ⟨h 0, h 1⟩
  | 1, _ => exact ⟨h 2, h 3⟩

/-- Three states in boxes of their own. -/
theorem three_boxes {w W : World} {s a b : Int × Int} {t : TypeId} (hW : W = ((w.alloc (.cells #[.int .i64 s.1, .int .i64 s.2] t)).alloc (.cells #[.int .i64 a.1, .int .i64 a.2] t)).alloc (.cells #[.int .i64 b.1, .int .i64 b.2] t)) :
    Below w.heap.size w W ∧ ∀ w', Below W.heap.size W w' → w'.cell? ⟨w.heap.size, 0, none⟩ = some (.int .i64 s.1) ∧ w'.cell? ⟨w.heap.size, 1, none⟩ = some (.int .i64 s.2) ∧
      w'.cell? ⟨w.heap.size + 1, 0, none⟩ = some (.int .i64 a.1) ∧ w'.cell? ⟨w.heap.size + 1, 1, none⟩ = some (.int .i64 a.2) ∧
      w'.cell? ⟨w.heap.size + 2, 0, none⟩ = some (.int .i64 b.1) ∧ w'.cell? ⟨w.heap.size + 2, 1, none⟩ = some (.int .i64 b.2) := by
  have h0 : W.heap[w.heap.size]? = some (.cells #[.int .i64 s.1, .int .i64 s.2] t) := by rw [hW]; exact old_alloc (old_alloc (heap_new _ _ _ rfl))
  have h1 : W.heap[w.heap.size + 1]? = some (.cells #[.int .i64 a.1, .int .i64 a.2] t) := by rw [hW]; exact old_alloc (heap_new _ _ _ (by simp))
  have h2 : W.heap[w.heap.size + 2]? = some (.cells #[.int .i64 b.1, .int .i64 b.2] t) := by rw [hW]; exact heap_new _ _ _ (by simp)
  refine ⟨by rw [hW]; exact (((Below.refl _ w).alloc (Nat.le_refl _) _).alloc (by simp) _).alloc (by simp; omega) _, fun w' hw' => ?_⟩
  obtain ⟨a0, a1, -⟩ := block2 (old_below h0 hw')
  obtain ⟨b0, b1, -⟩ := block2 (old_below h1 hw')
  obtain ⟨c0, c1, -⟩ := block2 (old_below h2 hw')
  exact ⟨a0, a1, b0, b1, c0, c1⟩

set_option maxRecDepth 20000 in
set_option maxHeartbeats 6400000 in
theorem HardFollows_any (s a b : Int × Int) (w : World) (hT : Hid (Tab w)) :
    Calls Tryd.prog 3 #[stV s, stV a, stV b] w fun e w' => e = .returned (.bool true) ∧ Below w.heap.size w w' := by
  obtain ⟨st, sv⟩ := s
  obtain ⟨at', av⟩ := a
  obtain ⟨bt, bv⟩ := b
  simp only [stV]
  obtain ⟨W, hW⟩ : ∃ W, W = ((w.alloc (.cells #[.int .i64 st, .int .i64 sv] 23)).alloc (.cells #[.int .i64 at', .int .i64 av] 23)).alloc (.cells #[.int .i64 bt, .int .i64 bv] 23) := ⟨_, rfl⟩
  obtain ⟨hbw, hcell⟩ := three_boxes (s := (st, sv)) (a := (at', av)) (b := (bt, bv)) hW
  have HBW := Lib.hid hbw
  simp only at hcell
  have q0 := fun w' h => (hcell w' h).1
  have q1 := fun w' h => (hcell w' h).2.1
  have q2 := fun w' h => (hcell w' h).2.2.1
  have q3 := fun w' h => (hcell w' h).2.2.2.1
  have q4 := fun w' h => (hcell w' h).2.2.2.2.1
  have q5 := fun w' h => (hcell w' h).2.2.2.2.2
  have HW := Lib.hid hW
  clear hW hbw hcell
  go_enter Tryd.func3, Tryd.ntmps3
  go_wp2_with fail
  rw [← HW.out]
  refine (awake4_any W (Lib.hid (hT.out.next HBW.out))).mono ?_
  rintro e w1 ⟨rfl, hb1⟩
  go_wp2_with fail
  have hS : Below W.heap.size W w1.drew := hb1.drew
  refine wp_region_held (S := fun w' => Below W.heap.size W w') (by kernel_rfl) ?_
  refine H_take (i := 0) (v := ?_) rfl (by as_aux_lemma => kernel_rfl) (by as_aux_lemma => kernel_rfl) (by as_aux_lemma => kernel_rfl) (fun _ _ _ h => h) (by rfl) hS ?_ ?_
  rotate_left
  · intro w' hw'; go_simp; with_reducible rfl
  go_simp
  refine H_take (i := 1) (v := ?_) rfl (by as_aux_lemma => kernel_rfl) (by as_aux_lemma => kernel_rfl) (by as_aux_lemma => kernel_rfl) (fun _ _ _ h => h) (by rfl) hS ?_ ?_
  rotate_left
  · intro w' hw'; go_simp; with_reducible rfl
  go_simp
  refine H_take (i := 3) (v := ?_) rfl (by as_aux_lemma => kernel_rfl) (by as_aux_lemma => kernel_rfl) (by as_aux_lemma => kernel_rfl) (fun _ _ _ h => h) (by rfl) hS ?_ ?_
  rotate_left
  · intro w' hw'; go_simp; with_reducible rfl
  go_simp
  refine H_take (i := 4) (v := ?_) rfl (by as_aux_lemma => kernel_rfl) (by as_aux_lemma => kernel_rfl) (by as_aux_lemma => kernel_rfl) (fun _ _ _ h => h) (by rfl) hS ?_ ?_
  rotate_left
  · intro w' hw'; go_simp; with_reducible rfl
  go_simp
  refine H_one (i := 2) (by as_aux_lemma => kernel_rfl) rfl (by rfl) ?_
  go_simp
  refine (RefFollows_any (st, sv) (at', av) _).mono ?_
  rintro e w2 ⟨rfl, hb2⟩
  have hS2 : Below W.heap.size W w2 := hS.trans (hb2.mono hS.size)
  obtain ⟨x, hx⟩ : ∃ x, x = follows (st, sv) (at', av) := ⟨_, rfl⟩
  rw [← hx]
  have HX := Lib.hid hx
  clear hx
  refine ⟨hS2, ?_⟩
  go_simp
  refine H_one (i := 5) (by as_aux_lemma => kernel_rfl) rfl (by rfl) ?_
  go_simp
  refine (RefFollows_any (st, sv) (bt, bv) _).mono ?_
  rintro e w3 ⟨rfl, hb3⟩
  have hS3 : Below W.heap.size W w3 := hS2.trans (hb3.mono hS2.size)
  obtain ⟨y, hy⟩ : ∃ y, y = follows (st, sv) (bt, bv) := ⟨_, rfl⟩
  rw [← hy]
  have HY := Lib.hid hy
  clear hy
  refine ⟨hS3, ?_⟩
  go_simp
  refine H_take (i := 6) (v := ?_) rfl (by as_aux_lemma => kernel_rfl) (by as_aux_lemma => kernel_rfl) (by as_aux_lemma => kernel_rfl) (fun _ _ _ h => h) (by rfl) hS3 ?_ ?_
  rotate_left
  · intro w' hw'; go_simp; with_reducible rfl
  go_simp
  refine H_take (i := 7) (v := ?_) rfl (by as_aux_lemma => kernel_rfl) (by as_aux_lemma => kernel_rfl) (by as_aux_lemma => kernel_rfl) (fun _ _ _ h => h) (by rfl) hS3 ?_ ?_
  rotate_left
  · intro w' hw'; go_simp; with_reducible rfl
  go_simp
  refine wpAnyH_done (by as_aux_lemma => kernel_rfl) ?_ _
  have HS3 := Lib.hid hS3
  clear hb1 hb2 hb3 hS hS2 hS3
  go_wp2_with fail
  have hone : ∀ (wx : World), Calls Tryd.prog 8 #[.agg #[.int .i64 st, .int .i64 sv], .slice (some ⟨wx.heap.size, 0, none⟩) 1 1] (wx.alloc (.cells #[.int .i64 at', .int .i64 av] 23)).drew fun r w' => r = .returned (.bool (followsAll (st, sv) [(at', av)])) ∧ Below wx.heap.size wx w' := fun wx =>
    (Follows_any (st, sv) [(at', av)] (fun k => k = wx.heap.size) _ (wx.alloc (.cells #[.int .i64 at', .int .i64 av] 23)).drew ((RepSts.one (w := wx) (s := (at', av)) (t := 23) rfl).same (fun _ h => h) fun _ _ => rfl) (fun k hk => by simp; omega)).mono fun r w' h => ⟨h.1, (below_alloc wx _).drew.trans (h.2.mono (by simp))⟩
  have htwo : ∀ (wx : World), Calls Tryd.prog 8 #[.agg #[.int .i64 st, .int .i64 sv], .slice (some ⟨wx.heap.size, 0, none⟩) 2 2] (wx.alloc (.cells #[.int .i64 at', .int .i64 av, .int .i64 bt, .int .i64 bv] 23)) fun r w' => r = .returned (.bool (followsAll (st, sv) [(at', av), (bt, bv)])) ∧ Below wx.heap.size wx w' := fun wx =>
    (Follows_any (st, sv) [(at', av), (bt, bv)] (fun k => k = wx.heap.size) _ _ (RepSts.two (w := wx) (s := (at', av)) (s2 := (bt, bv)) (t := 23) rfl) (fun k hk => by simp; omega)).mono fun r w' h => ⟨h.1, (below_alloc wx _).trans (h.2.mono (by simp))⟩
  have hzero : ∀ (wx : World), Calls Tryd.prog 8 #[.agg #[.int .i64 st, .int .i64 sv], .slice none 0 0] wx fun r w' => r = .returned (.bool (followsAll (st, sv) [])) ∧ Below wx.heap.size wx w' := fun wx =>
    Follows_any (st, sv) [] (fun _ => False) _ wx (.inl ⟨rfl, Bare.nil⟩) (fun _ h => h.elim)
  have e1 : followsAll (st, sv) [(at', av)] = x := by rw [follows_one, HX.out]
  have e2 : followsAll (st, sv) [(at', av), (bt, bv)] = (x && y) := by
    rw [HX.out, HY.out, ← follows_one, ← follows_one]
    unfold followsAll
    cases isState (st, sv) <;> simp
  have e3 : followsAll (st, sv) [] = (decide (0 ≤ st) && decide (-1 ≤ sv)) := by
    unfold followsAll isState
    simp
  rw [e1] at hone
  rw [e2] at htwo
  rw [e3] at hzero
  clear e1 e2 e3
  by_cases hp : 0 ≤ st
  · cases x with
    | true =>
      have HC1 : Hid (∀ wx : World, _) := Lib.hid hone
      have HC2 : Hid (∀ wx : World, Calls Tryd.prog 8 #[.agg #[.int .i64 st, .int .i64 sv], .slice (some ⟨wx.heap.size, 0, none⟩) 2 2] (wx.alloc (.cells #[.int .i64 at', .int .i64 av, .int .i64 bt, .int .i64 bv] 23)) fun r w' => r = .returned (.bool y) ∧ Below wx.heap.size wx w') := Lib.hid (by simpa using htwo)
      have HC3 : Hid (∀ wx : World, Calls Tryd.prog 8 #[.agg #[.int .i64 st, .int .i64 sv], .slice none 0 0] wx fun r w' => r = .returned (.bool (decide (-1 ≤ sv))) ∧ Below wx.heap.size wx w') := Lib.hid (by simpa [hp] using hzero)
      clear hone htwo hzero
      have hS4 : Below W.heap.size W w3.drew := HS3.out.drew
      refine wp_region_held (S := fun w' => Below W.heap.size W w') (by kernel_rfl) ?_
      refine H_take (i := 0) (v := ?_) rfl (by as_aux_lemma => kernel_rfl) (by as_aux_lemma => kernel_rfl) (by as_aux_lemma => kernel_rfl) (fun _ _ _ h => h) (by rfl) hS4 ?_ ?_
      rotate_left
      · intro w' hw'; go_simp; with_reducible rfl
      go_simp
      refine H_take (i := 1) (v := ?_) rfl (by as_aux_lemma => kernel_rfl) (by as_aux_lemma => kernel_rfl) (by as_aux_lemma => kernel_rfl) (fun _ _ _ h => h) (by rfl) hS4 ?_ ?_
      rotate_left
      · intro w' hw'; go_simp; with_reducible rfl
      go_simp
      refine H_take (i := 4) (v := ?_) rfl (by as_aux_lemma => kernel_rfl) (by as_aux_lemma => kernel_rfl) (by as_aux_lemma => kernel_rfl) (fun _ _ _ h => h) (by rfl) hS4 ?_ ?_
      rotate_left
      · intro w' hw'; go_simp; with_reducible rfl
      go_simp
      refine H_one (i := 2) (by as_aux_lemma => kernel_rfl) rfl (by rfl) ?_
      go_simp
      have hS5 : Below W.heap.size W (w3.alloc (.cells #[.int .i64 at', .int .i64 av] 23)).drew := (HS3.out.alloc HS3.out.size _).drew
      refine ⟨hS5, ?_⟩
      refine H_one (i := 3) (by as_aux_lemma => kernel_rfl) rfl (by rfl) ?_
      go_simp
      refine (HC1.out w3).mono ?_
      rintro e w4 ⟨rfl, hb4⟩
      have hS6 : Below W.heap.size W w4 := HS3.out.trans (hb4.mono HS3.out.size)
      refine ⟨hS6, ?_⟩
      go_simp
      refine H_take (i := 5) (v := ?_) rfl (by as_aux_lemma => kernel_rfl) (by as_aux_lemma => kernel_rfl) (by as_aux_lemma => kernel_rfl) (fun _ _ _ h => h) (by rfl) hS6 ?_ ?_
      rotate_left
      · intro w' hw'; go_simp; with_reducible rfl
      go_simp
      refine H_take (i := 6) (v := ?_) rfl (by as_aux_lemma => kernel_rfl) (by as_aux_lemma => kernel_rfl) (by as_aux_lemma => kernel_rfl) (fun _ _ _ h => h) (by rfl) hS6 ?_ ?_
      rotate_left
      · intro w' hw'; go_simp; with_reducible rfl
      go_simp
      refine H_take (i := 7) (v := ?_) rfl (by as_aux_lemma => kernel_rfl) (by as_aux_lemma => kernel_rfl) (by as_aux_lemma => kernel_rfl) (fun _ _ _ h => h) (by rfl) hS6 ?_ ?_
      rotate_left
      · intro w' hw'; go_simp; with_reducible rfl
      go_simp
      refine H_take (i := 8) (v := ?_) rfl (by as_aux_lemma => kernel_rfl) (by as_aux_lemma => kernel_rfl) (by as_aux_lemma => kernel_rfl) (fun _ _ _ h => h) (by rfl) hS6 ?_ ?_
      rotate_left
      · intro w' hw'; go_simp; with_reducible rfl
      go_simp
      refine H_take (i := 9) (v := ?_) rfl (by as_aux_lemma => kernel_rfl) (by as_aux_lemma => kernel_rfl) (by as_aux_lemma => kernel_rfl) (fun _ _ _ h => h) (by rfl) hS6 ?_ ?_
      rotate_left
      · intro w' hw'; go_simp; with_reducible rfl
      go_simp
      refine H_take (i := 12) (v := ?_) rfl (by as_aux_lemma => kernel_rfl) (by as_aux_lemma => kernel_rfl) (by as_aux_lemma => kernel_rfl) (fun _ _ _ h => h) (by rfl) hS6 ?_ ?_
      rotate_left
      · intro w' hw'; go_simp; with_reducible rfl
      go_simp
      refine H_one (i := 10) (by as_aux_lemma => kernel_rfl) rfl (by rfl) ?_
      go_simp
      have hS7 : Below W.heap.size W (w4.alloc (.cells #[.int .i64 at', .int .i64 av, .int .i64 bt, .int .i64 bv] 23)) := hS6.alloc hS6.size _
      refine ⟨hS7, ?_⟩
      refine H_one (i := 11) (by as_aux_lemma => kernel_rfl) rfl (by rfl) ?_
      go_simp
      refine (HC2.out w4).mono ?_
      rintro e w5 ⟨rfl, hb5⟩
      have hS8 : Below W.heap.size W w5 := hS6.trans (hb5.mono hS6.size)
      refine ⟨hS8, ?_⟩
      go_simp
      refine H_take (i := 13) (v := ?_) rfl (by as_aux_lemma => kernel_rfl) (by as_aux_lemma => kernel_rfl) (by as_aux_lemma => kernel_rfl) (fun _ _ _ h => h) (by rfl) hS8 ?_ ?_
      rotate_left
      · intro w' hw'; go_simp; with_reducible rfl
      go_simp
      refine H_take (i := 14) (v := ?_) rfl (by as_aux_lemma => kernel_rfl) (by as_aux_lemma => kernel_rfl) (by as_aux_lemma => kernel_rfl) (fun _ _ _ h => h) (by rfl) hS8 ?_ ?_
      rotate_left
      · intro w' hw'; go_simp; with_reducible rfl
      go_simp
      refine H_take (i := 15) (v := ?_) rfl (by as_aux_lemma => kernel_rfl) (by as_aux_lemma => kernel_rfl) (by as_aux_lemma => kernel_rfl) (fun _ _ _ h => h) (by rfl) hS8 ?_ ?_
      rotate_left
      · intro w' hw'; go_simp; with_reducible rfl
      go_simp
      refine H_take (i := 16) (v := ?_) rfl (by as_aux_lemma => kernel_rfl) (by as_aux_lemma => kernel_rfl) (by as_aux_lemma => kernel_rfl) (fun _ _ _ h => h) (by rfl) hS8 ?_ ?_
      rotate_left
      · intro w' hw'; go_simp; with_reducible rfl
      go_simp
      refine H_take (i := 17) (v := ?_) rfl (by as_aux_lemma => kernel_rfl) (by as_aux_lemma => kernel_rfl) (by as_aux_lemma => kernel_rfl) (fun _ _ _ h => h) (by rfl) hS8 ?_ ?_
      rotate_left
      · intro w' hw'; go_simp; with_reducible rfl
      go_simp
      refine H_take (i := 18) (v := ?_) rfl (by as_aux_lemma => kernel_rfl) (by as_aux_lemma => kernel_rfl) (by as_aux_lemma => kernel_rfl) (fun _ _ _ h => h) (by rfl) hS8 ?_ ?_
      rotate_left
      · intro w' hw'; go_simp; with_reducible rfl
      go_simp
      refine H_take (i := 19) (v := ?_) rfl (by as_aux_lemma => kernel_rfl) (by as_aux_lemma => kernel_rfl) (by as_aux_lemma => kernel_rfl) (fun _ _ _ h => h) (by rfl) hS8 ?_ ?_
      rotate_left
      · intro w' hw'; go_simp; with_reducible rfl
      go_simp
      refine H_take (i := 21) (v := ?_) rfl (by as_aux_lemma => kernel_rfl) (by as_aux_lemma => kernel_rfl) (by as_aux_lemma => kernel_rfl) (fun _ _ _ h => h) (by rfl) hS8 ?_ ?_
      rotate_left
      · intro w' hw'; go_simp; with_reducible rfl
      go_simp
      refine H_take (i := 22) (v := ?_) rfl (by as_aux_lemma => kernel_rfl) (by as_aux_lemma => kernel_rfl) (by as_aux_lemma => kernel_rfl) (fun _ _ _ h => h) (by rfl) hS8 ?_ ?_
      rotate_left
      · intro w' hw'; go_simp; with_reducible rfl
      go_simp
      refine H_take (i := 23) (v := ?_) rfl (by as_aux_lemma => kernel_rfl) (by as_aux_lemma => kernel_rfl) (by as_aux_lemma => kernel_rfl) (fun _ _ _ h => h) (by rfl) hS8 ?_ ?_
      rotate_left
      · intro w' hw'; go_simp; with_reducible rfl
      go_simp
      refine H_one (i := 20) (by as_aux_lemma => kernel_rfl) rfl (by rfl) ?_
      go_simp
      refine (HC3.out w5).mono ?_
      rintro e w6 ⟨rfl, hb6⟩
      have hS9 : Below W.heap.size W w6 := hS8.trans (hb6.mono hS8.size)
      refine ⟨hS9, ?_⟩
      go_simp
      refine H_take (i := 24) (v := ?_) rfl (by as_aux_lemma => kernel_rfl) (by as_aux_lemma => kernel_rfl) (by as_aux_lemma => kernel_rfl) (fun _ _ _ h => h) (by rfl) hS9 ?_ ?_
      rotate_left
      · intro w' hw'; go_simp; with_reducible rfl
      go_simp
      refine H_take (i := 25) (v := ?_) rfl (by as_aux_lemma => kernel_rfl) (by as_aux_lemma => kernel_rfl) (by as_aux_lemma => kernel_rfl) (fun _ _ _ h => h) (by rfl) hS9 ?_ ?_
      rotate_left
      · intro w' hw'; go_simp; with_reducible rfl
      go_simp
      refine H_take (i := 26) (v := ?_) rfl (by as_aux_lemma => kernel_rfl) (by as_aux_lemma => kernel_rfl) (by as_aux_lemma => kernel_rfl) (fun _ _ _ h => h) (by rfl) hS9 ?_ ?_
      rotate_left
      · intro w' hw'; go_simp; with_reducible rfl
      go_simp
      refine H_take (i := 27) (v := ?_) rfl (by as_aux_lemma => kernel_rfl) (by as_aux_lemma => kernel_rfl) (by as_aux_lemma => kernel_rfl) (fun _ _ _ h => h) (by rfl) hS9 ?_ ?_
      rotate_left
      · intro w' hw'; go_simp; with_reducible rfl
      go_simp
      refine H_take (i := 28) (v := ?_) rfl (by as_aux_lemma => kernel_rfl) (by as_aux_lemma => kernel_rfl) (by as_aux_lemma => kernel_rfl) (fun _ _ _ h => h) (by rfl) hS9 ?_ ?_
      rotate_left
      · intro w' hw'; go_simp; with_reducible rfl
      go_simp
      refine H_take (i := 29) (v := ?_) rfl (by as_aux_lemma => kernel_rfl) (by as_aux_lemma => kernel_rfl) (by as_aux_lemma => kernel_rfl) (fun _ _ _ h => h) (by rfl) hS9 ?_ ?_
      rotate_left
      · intro w' hw'; go_simp; with_reducible rfl
      go_simp
      refine H_take (i := 30) (v := ?_) rfl (by as_aux_lemma => kernel_rfl) (by as_aux_lemma => kernel_rfl) (by as_aux_lemma => kernel_rfl) (fun _ _ _ h => h) (by rfl) hS9 ?_ ?_
      rotate_left
      · intro w' hw'; go_simp; with_reducible rfl
      go_simp
      refine H_take (i := 31) (v := ?_) rfl (by as_aux_lemma => kernel_rfl) (by as_aux_lemma => kernel_rfl) (by as_aux_lemma => kernel_rfl) (fun _ _ _ h => h) (by rfl) hS9 ?_ ?_
      rotate_left
      · intro w' hw'; go_simp; with_reducible rfl
      go_simp
      refine wpAnyH_done (by as_aux_lemma => kernel_rfl) ?_ _
      have HS9 := Lib.hid hS9
      clear q0 q1 q2 q3 q4 q5 hb4 hb5 hb6 hS4 hS5 hS6 hS7 hS8 hS9
      go_wp2_with fail
      go_ret
      exact ⟨rfl, HBW.out.trans (HS9.out.mono HBW.out.size)⟩
    | false =>
      have HC1 : Hid (∀ wx : World, _) := Lib.hid hone
      have HC2 : Hid (∀ wx : World, Calls Tryd.prog 8 #[.agg #[.int .i64 st, .int .i64 sv], .slice (some ⟨wx.heap.size, 0, none⟩) 2 2] (wx.alloc (.cells #[.int .i64 at', .int .i64 av, .int .i64 bt, .int .i64 bv] 23)) fun r w' => r = .returned (.bool false) ∧ Below wx.heap.size wx w') := Lib.hid (by simpa using htwo)
      have HC3 : Hid (∀ wx : World, Calls Tryd.prog 8 #[.agg #[.int .i64 st, .int .i64 sv], .slice none 0 0] wx fun r w' => r = .returned (.bool (decide (-1 ≤ sv))) ∧ Below wx.heap.size wx w') := Lib.hid (by simpa [hp] using hzero)
      clear hone htwo hzero
      have hS4 : Below W.heap.size W w3.drew := HS3.out.drew
      refine wp_region_held (S := fun w' => Below W.heap.size W w') (by kernel_rfl) ?_
      refine H_take (i := 0) (v := ?_) rfl (by as_aux_lemma => kernel_rfl) (by as_aux_lemma => kernel_rfl) (by as_aux_lemma => kernel_rfl) (fun _ _ _ h => h) (by rfl) hS4 ?_ ?_
      rotate_left
      · intro w' hw'; go_simp; with_reducible rfl
      go_simp
      refine H_take (i := 1) (v := ?_) rfl (by as_aux_lemma => kernel_rfl) (by as_aux_lemma => kernel_rfl) (by as_aux_lemma => kernel_rfl) (fun _ _ _ h => h) (by rfl) hS4 ?_ ?_
      rotate_left
      · intro w' hw'; go_simp; with_reducible rfl
      go_simp
      refine H_take (i := 4) (v := ?_) rfl (by as_aux_lemma => kernel_rfl) (by as_aux_lemma => kernel_rfl) (by as_aux_lemma => kernel_rfl) (fun _ _ _ h => h) (by rfl) hS4 ?_ ?_
      rotate_left
      · intro w' hw'; go_simp; with_reducible rfl
      go_simp
      refine H_one (i := 2) (by as_aux_lemma => kernel_rfl) rfl (by rfl) ?_
      go_simp
      have hS5 : Below W.heap.size W (w3.alloc (.cells #[.int .i64 at', .int .i64 av] 23)).drew := (HS3.out.alloc HS3.out.size _).drew
      refine ⟨hS5, ?_⟩
      refine H_one (i := 3) (by as_aux_lemma => kernel_rfl) rfl (by rfl) ?_
      go_simp
      refine (HC1.out w3).mono ?_
      rintro e w4 ⟨rfl, hb4⟩
      have hS6 : Below W.heap.size W w4 := HS3.out.trans (hb4.mono HS3.out.size)
      refine ⟨hS6, ?_⟩
      go_simp
      refine H_take (i := 5) (v := ?_) rfl (by as_aux_lemma => kernel_rfl) (by as_aux_lemma => kernel_rfl) (by as_aux_lemma => kernel_rfl) (fun _ _ _ h => h) (by rfl) hS6 ?_ ?_
      rotate_left
      · intro w' hw'; go_simp; with_reducible rfl
      go_simp
      refine H_take (i := 6) (v := ?_) rfl (by as_aux_lemma => kernel_rfl) (by as_aux_lemma => kernel_rfl) (by as_aux_lemma => kernel_rfl) (fun _ _ _ h => h) (by rfl) hS6 ?_ ?_
      rotate_left
      · intro w' hw'; go_simp; with_reducible rfl
      go_simp
      refine H_take (i := 7) (v := ?_) rfl (by as_aux_lemma => kernel_rfl) (by as_aux_lemma => kernel_rfl) (by as_aux_lemma => kernel_rfl) (fun _ _ _ h => h) (by rfl) hS6 ?_ ?_
      rotate_left
      · intro w' hw'; go_simp; with_reducible rfl
      go_simp
      refine H_take (i := 8) (v := ?_) rfl (by as_aux_lemma => kernel_rfl) (by as_aux_lemma => kernel_rfl) (by as_aux_lemma => kernel_rfl) (fun _ _ _ h => h) (by rfl) hS6 ?_ ?_
      rotate_left
      · intro w' hw'; go_simp; with_reducible rfl
      go_simp
      refine H_take (i := 9) (v := ?_) rfl (by as_aux_lemma => kernel_rfl) (by as_aux_lemma => kernel_rfl) (by as_aux_lemma => kernel_rfl) (fun _ _ _ h => h) (by rfl) hS6 ?_ ?_
      rotate_left
      · intro w' hw'; go_simp; with_reducible rfl
      go_simp
      refine H_take (i := 12) (v := ?_) rfl (by as_aux_lemma => kernel_rfl) (by as_aux_lemma => kernel_rfl) (by as_aux_lemma => kernel_rfl) (fun _ _ _ h => h) (by rfl) hS6 ?_ ?_
      rotate_left
      · intro w' hw'; go_simp; with_reducible rfl
      go_simp
      refine H_one (i := 10) (by as_aux_lemma => kernel_rfl) rfl (by rfl) ?_
      go_simp
      have hS7 : Below W.heap.size W (w4.alloc (.cells #[.int .i64 at', .int .i64 av, .int .i64 bt, .int .i64 bv] 23)) := hS6.alloc hS6.size _
      refine ⟨hS7, ?_⟩
      refine H_one (i := 11) (by as_aux_lemma => kernel_rfl) rfl (by rfl) ?_
      go_simp
      refine (HC2.out w4).mono ?_
      rintro e w5 ⟨rfl, hb5⟩
      have hS8 : Below W.heap.size W w5 := hS6.trans (hb5.mono hS6.size)
      refine ⟨hS8, ?_⟩
      go_simp
      refine H_take (i := 13) (v := ?_) rfl (by as_aux_lemma => kernel_rfl) (by as_aux_lemma => kernel_rfl) (by as_aux_lemma => kernel_rfl) (fun _ _ _ h => h) (by rfl) hS8 ?_ ?_
      rotate_left
      · intro w' hw'; go_simp; with_reducible rfl
      go_simp
      refine H_skip (i := 14) rfl (by as_aux_lemma => kernel_rfl) (by as_aux_lemma => kernel_rfl) (by as_aux_lemma => kernel_rfl) (fun _ _ _ h => h) (by rfl) hS8 ?_
      go_simp
      refine H_take (i := 15) (v := ?_) rfl (by as_aux_lemma => kernel_rfl) (by as_aux_lemma => kernel_rfl) (by as_aux_lemma => kernel_rfl) (fun _ _ _ h => h) (by rfl) hS8 ?_ ?_
      rotate_left
      · intro w' hw'; go_simp; with_reducible rfl
      go_simp
      refine H_take (i := 16) (v := ?_) rfl (by as_aux_lemma => kernel_rfl) (by as_aux_lemma => kernel_rfl) (by as_aux_lemma => kernel_rfl) (fun _ _ _ h => h) (by rfl) hS8 ?_ ?_
      rotate_left
      · intro w' hw'; go_simp; with_reducible rfl
      go_simp
      refine H_take (i := 17) (v := ?_) rfl (by as_aux_lemma => kernel_rfl) (by as_aux_lemma => kernel_rfl) (by as_aux_lemma => kernel_rfl) (fun _ _ _ h => h) (by rfl) hS8 ?_ ?_
      rotate_left
      · intro w' hw'; go_simp; with_reducible rfl
      go_simp
      refine H_take (i := 18) (v := ?_) rfl (by as_aux_lemma => kernel_rfl) (by as_aux_lemma => kernel_rfl) (by as_aux_lemma => kernel_rfl) (fun _ _ _ h => h) (by rfl) hS8 ?_ ?_
      rotate_left
      · intro w' hw'; go_simp; with_reducible rfl
      go_simp
      refine H_take (i := 19) (v := ?_) rfl (by as_aux_lemma => kernel_rfl) (by as_aux_lemma => kernel_rfl) (by as_aux_lemma => kernel_rfl) (fun _ _ _ h => h) (by rfl) hS8 ?_ ?_
      rotate_left
      · intro w' hw'; go_simp; with_reducible rfl
      go_simp
      refine H_take (i := 21) (v := ?_) rfl (by as_aux_lemma => kernel_rfl) (by as_aux_lemma => kernel_rfl) (by as_aux_lemma => kernel_rfl) (fun _ _ _ h => h) (by rfl) hS8 ?_ ?_
      rotate_left
      · intro w' hw'; go_simp; with_reducible rfl
      go_simp
      refine H_take (i := 22) (v := ?_) rfl (by as_aux_lemma => kernel_rfl) (by as_aux_lemma => kernel_rfl) (by as_aux_lemma => kernel_rfl) (fun _ _ _ h => h) (by rfl) hS8 ?_ ?_
      rotate_left
      · intro w' hw'; go_simp; with_reducible rfl
      go_simp
      refine H_take (i := 23) (v := ?_) rfl (by as_aux_lemma => kernel_rfl) (by as_aux_lemma => kernel_rfl) (by as_aux_lemma => kernel_rfl) (fun _ _ _ h => h) (by rfl) hS8 ?_ ?_
      rotate_left
      · intro w' hw'; go_simp; with_reducible rfl
      go_simp
      refine H_one (i := 20) (by as_aux_lemma => kernel_rfl) rfl (by rfl) ?_
      go_simp
      refine (HC3.out w5).mono ?_
      rintro e w6 ⟨rfl, hb6⟩
      have hS9 : Below W.heap.size W w6 := hS8.trans (hb6.mono hS8.size)
      refine ⟨hS9, ?_⟩
      go_simp
      refine H_take (i := 24) (v := ?_) rfl (by as_aux_lemma => kernel_rfl) (by as_aux_lemma => kernel_rfl) (by as_aux_lemma => kernel_rfl) (fun _ _ _ h => h) (by rfl) hS9 ?_ ?_
      rotate_left
      · intro w' hw'; go_simp; with_reducible rfl
      go_simp
      refine H_take (i := 25) (v := ?_) rfl (by as_aux_lemma => kernel_rfl) (by as_aux_lemma => kernel_rfl) (by as_aux_lemma => kernel_rfl) (fun _ _ _ h => h) (by rfl) hS9 ?_ ?_
      rotate_left
      · intro w' hw'; go_simp; with_reducible rfl
      go_simp
      refine H_take (i := 26) (v := ?_) rfl (by as_aux_lemma => kernel_rfl) (by as_aux_lemma => kernel_rfl) (by as_aux_lemma => kernel_rfl) (fun _ _ _ h => h) (by rfl) hS9 ?_ ?_
      rotate_left
      · intro w' hw'; go_simp; with_reducible rfl
      go_simp
      refine H_take (i := 27) (v := ?_) rfl (by as_aux_lemma => kernel_rfl) (by as_aux_lemma => kernel_rfl) (by as_aux_lemma => kernel_rfl) (fun _ _ _ h => h) (by rfl) hS9 ?_ ?_
      rotate_left
      · intro w' hw'; go_simp; with_reducible rfl
      go_simp
      refine H_take (i := 28) (v := ?_) rfl (by as_aux_lemma => kernel_rfl) (by as_aux_lemma => kernel_rfl) (by as_aux_lemma => kernel_rfl) (fun _ _ _ h => h) (by rfl) hS9 ?_ ?_
      rotate_left
      · intro w' hw'; go_simp; with_reducible rfl
      go_simp
      refine H_take (i := 29) (v := ?_) rfl (by as_aux_lemma => kernel_rfl) (by as_aux_lemma => kernel_rfl) (by as_aux_lemma => kernel_rfl) (fun _ _ _ h => h) (by rfl) hS9 ?_ ?_
      rotate_left
      · intro w' hw'; go_simp; with_reducible rfl
      go_simp
      refine H_take (i := 30) (v := ?_) rfl (by as_aux_lemma => kernel_rfl) (by as_aux_lemma => kernel_rfl) (by as_aux_lemma => kernel_rfl) (fun _ _ _ h => h) (by rfl) hS9 ?_ ?_
      rotate_left
      · intro w' hw'; go_simp; with_reducible rfl
      go_simp
      refine H_take (i := 31) (v := ?_) rfl (by as_aux_lemma => kernel_rfl) (by as_aux_lemma => kernel_rfl) (by as_aux_lemma => kernel_rfl) (fun _ _ _ h => h) (by rfl) hS9 ?_ ?_
      rotate_left
      · intro w' hw'; go_simp; with_reducible rfl
      go_simp
      refine wpAnyH_done (by as_aux_lemma => kernel_rfl) ?_ _
      have HS9 := Lib.hid hS9
      clear q0 q1 q2 q3 q4 q5 hb4 hb5 hb6 hS4 hS5 hS6 hS7 hS8 hS9
      go_wp2_with fail
      go_ret
      exact ⟨rfl, HBW.out.trans (HS9.out.mono HBW.out.size)⟩
  · cases x with
    | true =>
      have HC1 : Hid (∀ wx : World, _) := Lib.hid hone
      have HC2 : Hid (∀ wx : World, Calls Tryd.prog 8 #[.agg #[.int .i64 st, .int .i64 sv], .slice (some ⟨wx.heap.size, 0, none⟩) 2 2] (wx.alloc (.cells #[.int .i64 at', .int .i64 av, .int .i64 bt, .int .i64 bv] 23)) fun r w' => r = .returned (.bool y) ∧ Below wx.heap.size wx w') := Lib.hid (by simpa using htwo)
      have HC3 : Hid (∀ wx : World, Calls Tryd.prog 8 #[.agg #[.int .i64 st, .int .i64 sv], .slice none 0 0] wx fun r w' => r = .returned (.bool false) ∧ Below wx.heap.size wx w') := Lib.hid (by simpa [hp] using hzero)
      clear hone htwo hzero
      have hp2 : decide ((0 : Int) ≤ st) = false := by simp; omega
      have hS4 : Below W.heap.size W w3.drew := HS3.out.drew
      refine wp_region_held (S := fun w' => Below W.heap.size W w') (by kernel_rfl) ?_
      refine H_take (i := 0) (v := ?_) rfl (by as_aux_lemma => kernel_rfl) (by as_aux_lemma => kernel_rfl) (by as_aux_lemma => kernel_rfl) (fun _ _ _ h => h) (by rfl) hS4 ?_ ?_
      rotate_left
      · intro w' hw'; go_simp; with_reducible rfl
      go_simp
      refine H_take (i := 1) (v := ?_) rfl (by as_aux_lemma => kernel_rfl) (by as_aux_lemma => kernel_rfl) (by as_aux_lemma => kernel_rfl) (fun _ _ _ h => h) (by rfl) hS4 ?_ ?_
      rotate_left
      · intro w' hw'; go_simp; with_reducible rfl
      go_simp
      refine H_take (i := 4) (v := ?_) rfl (by as_aux_lemma => kernel_rfl) (by as_aux_lemma => kernel_rfl) (by as_aux_lemma => kernel_rfl) (fun _ _ _ h => h) (by rfl) hS4 ?_ ?_
      rotate_left
      · intro w' hw'; go_simp; with_reducible rfl
      go_simp
      refine H_one (i := 2) (by as_aux_lemma => kernel_rfl) rfl (by rfl) ?_
      go_simp
      have hS5 : Below W.heap.size W (w3.alloc (.cells #[.int .i64 at', .int .i64 av] 23)).drew := (HS3.out.alloc HS3.out.size _).drew
      refine ⟨hS5, ?_⟩
      refine H_one (i := 3) (by as_aux_lemma => kernel_rfl) rfl (by rfl) ?_
      go_simp
      refine (HC1.out w3).mono ?_
      rintro e w4 ⟨rfl, hb4⟩
      have hS6 : Below W.heap.size W w4 := HS3.out.trans (hb4.mono HS3.out.size)
      refine ⟨hS6, ?_⟩
      go_simp
      refine H_take (i := 5) (v := ?_) rfl (by as_aux_lemma => kernel_rfl) (by as_aux_lemma => kernel_rfl) (by as_aux_lemma => kernel_rfl) (fun _ _ _ h => h) (by rfl) hS6 ?_ ?_
      rotate_left
      · intro w' hw'; go_simp; with_reducible rfl
      go_simp
      refine H_take (i := 6) (v := ?_) rfl (by as_aux_lemma => kernel_rfl) (by as_aux_lemma => kernel_rfl) (by as_aux_lemma => kernel_rfl) (fun _ _ _ h => h) (by rfl) hS6 ?_ ?_
      rotate_left
      · intro w' hw'; go_simp; with_reducible rfl
      go_simp
      refine H_take (i := 7) (v := ?_) rfl (by as_aux_lemma => kernel_rfl) (by as_aux_lemma => kernel_rfl) (by as_aux_lemma => kernel_rfl) (fun _ _ _ h => h) (by rfl) hS6 ?_ ?_
      rotate_left
      · intro w' hw'; go_simp; with_reducible rfl
      go_simp
      refine H_take (i := 8) (v := ?_) rfl (by as_aux_lemma => kernel_rfl) (by as_aux_lemma => kernel_rfl) (by as_aux_lemma => kernel_rfl) (fun _ _ _ h => h) (by rfl) hS6 ?_ ?_
      rotate_left
      · intro w' hw'; go_simp; with_reducible rfl
      go_simp
      refine H_take (i := 9) (v := ?_) rfl (by as_aux_lemma => kernel_rfl) (by as_aux_lemma => kernel_rfl) (by as_aux_lemma => kernel_rfl) (fun _ _ _ h => h) (by rfl) hS6 ?_ ?_
      rotate_left
      · intro w' hw'; go_simp; with_reducible rfl
      go_simp
      refine H_take (i := 12) (v := ?_) rfl (by as_aux_lemma => kernel_rfl) (by as_aux_lemma => kernel_rfl) (by as_aux_lemma => kernel_rfl) (fun _ _ _ h => h) (by rfl) hS6 ?_ ?_
      rotate_left
      · intro w' hw'; go_simp; with_reducible rfl
      go_simp
      refine H_one (i := 10) (by as_aux_lemma => kernel_rfl) rfl (by rfl) ?_
      go_simp
      have hS7 : Below W.heap.size W (w4.alloc (.cells #[.int .i64 at', .int .i64 av, .int .i64 bt, .int .i64 bv] 23)) := hS6.alloc hS6.size _
      refine ⟨hS7, ?_⟩
      refine H_one (i := 11) (by as_aux_lemma => kernel_rfl) rfl (by rfl) ?_
      go_simp
      refine (HC2.out w4).mono ?_
      rintro e w5 ⟨rfl, hb5⟩
      have hS8 : Below W.heap.size W w5 := hS6.trans (hb5.mono hS6.size)
      refine ⟨hS8, ?_⟩
      go_simp
      refine H_take (i := 13) (v := ?_) rfl (by as_aux_lemma => kernel_rfl) (by as_aux_lemma => kernel_rfl) (by as_aux_lemma => kernel_rfl) (fun _ _ _ h => h) (by rfl) hS8 ?_ ?_
      rotate_left
      · intro w' hw'; go_simp; with_reducible rfl
      go_simp
      refine H_take (i := 14) (v := ?_) rfl (by as_aux_lemma => kernel_rfl) (by as_aux_lemma => kernel_rfl) (by as_aux_lemma => kernel_rfl) (fun _ _ _ h => h) (by rfl) hS8 ?_ ?_
      rotate_left
      · intro w' hw'; go_simp; with_reducible rfl
      go_simp
      refine H_take (i := 15) (v := ?_) rfl (by as_aux_lemma => kernel_rfl) (by as_aux_lemma => kernel_rfl) (by as_aux_lemma => kernel_rfl) (fun _ _ _ h => h) (by rfl) hS8 ?_ ?_
      rotate_left
      · intro w' hw'; go_simp; with_reducible rfl
      go_simp
      refine H_take (i := 16) (v := ?_) rfl (by as_aux_lemma => kernel_rfl) (by as_aux_lemma => kernel_rfl) (by as_aux_lemma => kernel_rfl) (fun _ _ _ h => h) (by rfl) hS8 ?_ ?_
      rotate_left
      · intro w' hw'; go_simp; with_reducible rfl
      go_simp
      refine H_take (i := 17) (v := ?_) rfl (by as_aux_lemma => kernel_rfl) (by as_aux_lemma => kernel_rfl) (by as_aux_lemma => kernel_rfl) (fun _ _ _ h => h) (by rfl) hS8 ?_ ?_
      rotate_left
      · intro w' hw'; go_simp; with_reducible rfl
      go_simp
      refine H_take (i := 18) (v := ?_) rfl (by as_aux_lemma => kernel_rfl) (by as_aux_lemma => kernel_rfl) (by as_aux_lemma => kernel_rfl) (fun _ _ _ h => h) (by rfl) hS8 ?_ ?_
      rotate_left
      · intro w' hw'; go_simp; with_reducible rfl
      go_simp
      refine H_take (i := 19) (v := ?_) rfl (by as_aux_lemma => kernel_rfl) (by as_aux_lemma => kernel_rfl) (by as_aux_lemma => kernel_rfl) (fun _ _ _ h => h) (by rfl) hS8 ?_ ?_
      rotate_left
      · intro w' hw'; go_simp; with_reducible rfl
      go_simp
      refine H_take (i := 21) (v := ?_) rfl (by as_aux_lemma => kernel_rfl) (by as_aux_lemma => kernel_rfl) (by as_aux_lemma => kernel_rfl) (fun _ _ _ h => h) (by rfl) hS8 ?_ ?_
      rotate_left
      · intro w' hw'; go_simp; with_reducible rfl
      go_simp
      refine H_take (i := 22) (v := ?_) rfl (by as_aux_lemma => kernel_rfl) (by as_aux_lemma => kernel_rfl) (by as_aux_lemma => kernel_rfl) (fun _ _ _ h => h) (by rfl) hS8 ?_ ?_
      rotate_left
      · intro w' hw'; go_simp; with_reducible rfl
      go_simp
      refine H_take (i := 23) (v := ?_) rfl (by as_aux_lemma => kernel_rfl) (by as_aux_lemma => kernel_rfl) (by as_aux_lemma => kernel_rfl) (fun _ _ _ h => h) (by rfl) hS8 ?_ ?_
      rotate_left
      · intro w' hw'; go_simp; with_reducible rfl
      go_simp
      refine H_one (i := 20) (by as_aux_lemma => kernel_rfl) rfl (by rfl) ?_
      go_simp
      refine (HC3.out w5).mono ?_
      rintro e w6 ⟨rfl, hb6⟩
      have hS9 : Below W.heap.size W w6 := hS8.trans (hb6.mono hS8.size)
      refine ⟨hS9, ?_⟩
      go_simp
      refine H_take (i := 24) (v := ?_) rfl (by as_aux_lemma => kernel_rfl) (by as_aux_lemma => kernel_rfl) (by as_aux_lemma => kernel_rfl) (fun _ _ _ h => h) (by rfl) hS9 ?_ ?_
      rotate_left
      · intro w' hw'; go_simp; with_reducible rfl
      go_simp
      refine H_skip (i := 25) rfl (by as_aux_lemma => kernel_rfl) (by as_aux_lemma => kernel_rfl) (by as_aux_lemma => kernel_rfl) (fun _ _ _ h => h) (by rfl) hS9 ?_
      go_simp
      refine H_skip (i := 26) rfl (by as_aux_lemma => kernel_rfl) (by as_aux_lemma => kernel_rfl) (by as_aux_lemma => kernel_rfl) (fun _ _ _ h => h) (by rfl) hS9 ?_
      go_simp
      refine H_skip (i := 27) rfl (by as_aux_lemma => kernel_rfl) (by as_aux_lemma => kernel_rfl) (by as_aux_lemma => kernel_rfl) (fun _ _ _ h => h) (by rfl) hS9 ?_
      go_simp
      refine H_take (i := 28) (v := ?_) rfl (by as_aux_lemma => kernel_rfl) (by as_aux_lemma => kernel_rfl) (by as_aux_lemma => kernel_rfl) (fun _ _ _ h => h) (by rfl) hS9 ?_ ?_
      rotate_left
      · intro w' hw'; go_simp; with_reducible rfl
      go_simp
      refine H_take (i := 29) (v := ?_) rfl (by as_aux_lemma => kernel_rfl) (by as_aux_lemma => kernel_rfl) (by as_aux_lemma => kernel_rfl) (fun _ _ _ h => h) (by rfl) hS9 ?_ ?_
      rotate_left
      · intro w' hw'; go_simp; with_reducible rfl
      go_simp
      refine H_take (i := 30) (v := ?_) rfl (by as_aux_lemma => kernel_rfl) (by as_aux_lemma => kernel_rfl) (by as_aux_lemma => kernel_rfl) (fun _ _ _ h => h) (by rfl) hS9 ?_ ?_
      rotate_left
      · intro w' hw'; go_simp; with_reducible rfl
      go_simp
      refine H_take (i := 31) (v := ?_) rfl (by as_aux_lemma => kernel_rfl) (by as_aux_lemma => kernel_rfl) (by as_aux_lemma => kernel_rfl) (fun _ _ _ h => h) (by rfl) hS9 ?_ ?_
      rotate_left
      · intro w' hw'; go_simp; with_reducible rfl
      go_simp
      refine wpAnyH_done (by as_aux_lemma => kernel_rfl) ?_ _
      have HS9 := Lib.hid hS9
      clear q0 q1 q2 q3 q4 q5 hb4 hb5 hb6 hS4 hS5 hS6 hS7 hS8 hS9
      go_wp2_with fail
      go_ret
      exact ⟨rfl, HBW.out.trans (HS9.out.mono HBW.out.size)⟩
    | false =>
      have HC1 : Hid (∀ wx : World, _) := Lib.hid hone
      have HC2 : Hid (∀ wx : World, Calls Tryd.prog 8 #[.agg #[.int .i64 st, .int .i64 sv], .slice (some ⟨wx.heap.size, 0, none⟩) 2 2] (wx.alloc (.cells #[.int .i64 at', .int .i64 av, .int .i64 bt, .int .i64 bv] 23)) fun r w' => r = .returned (.bool false) ∧ Below wx.heap.size wx w') := Lib.hid (by simpa using htwo)
      have HC3 : Hid (∀ wx : World, Calls Tryd.prog 8 #[.agg #[.int .i64 st, .int .i64 sv], .slice none 0 0] wx fun r w' => r = .returned (.bool false) ∧ Below wx.heap.size wx w') := Lib.hid (by simpa [hp] using hzero)
      clear hone htwo hzero
      have hp2 : decide ((0 : Int) ≤ st) = false := by simp; omega
      have hS4 : Below W.heap.size W w3.drew := HS3.out.drew
      refine wp_region_held (S := fun w' => Below W.heap.size W w') (by kernel_rfl) ?_
      refine H_take (i := 0) (v := ?_) rfl (by as_aux_lemma => kernel_rfl) (by as_aux_lemma => kernel_rfl) (by as_aux_lemma => kernel_rfl) (fun _ _ _ h => h) (by rfl) hS4 ?_ ?_
      rotate_left
      · intro w' hw'; go_simp; with_reducible rfl
      go_simp
      refine H_take (i := 1) (v := ?_) rfl (by as_aux_lemma => kernel_rfl) (by as_aux_lemma => kernel_rfl) (by as_aux_lemma => kernel_rfl) (fun _ _ _ h => h) (by rfl) hS4 ?_ ?_
      rotate_left
      · intro w' hw'; go_simp; with_reducible rfl
      go_simp
      refine H_take (i := 4) (v := ?_) rfl (by as_aux_lemma => kernel_rfl) (by as_aux_lemma => kernel_rfl) (by as_aux_lemma => kernel_rfl) (fun _ _ _ h => h) (by rfl) hS4 ?_ ?_
      rotate_left
      · intro w' hw'; go_simp; with_reducible rfl
      go_simp
      refine H_one (i := 2) (by as_aux_lemma => kernel_rfl) rfl (by rfl) ?_
      go_simp
      have hS5 : Below W.heap.size W (w3.alloc (.cells #[.int .i64 at', .int .i64 av] 23)).drew := (HS3.out.alloc HS3.out.size _).drew
      refine ⟨hS5, ?_⟩
      refine H_one (i := 3) (by as_aux_lemma => kernel_rfl) rfl (by rfl) ?_
      go_simp
      refine (HC1.out w3).mono ?_
      rintro e w4 ⟨rfl, hb4⟩
      have hS6 : Below W.heap.size W w4 := HS3.out.trans (hb4.mono HS3.out.size)
      refine ⟨hS6, ?_⟩
      go_simp
      refine H_take (i := 5) (v := ?_) rfl (by as_aux_lemma => kernel_rfl) (by as_aux_lemma => kernel_rfl) (by as_aux_lemma => kernel_rfl) (fun _ _ _ h => h) (by rfl) hS6 ?_ ?_
      rotate_left
      · intro w' hw'; go_simp; with_reducible rfl
      go_simp
      refine H_take (i := 6) (v := ?_) rfl (by as_aux_lemma => kernel_rfl) (by as_aux_lemma => kernel_rfl) (by as_aux_lemma => kernel_rfl) (fun _ _ _ h => h) (by rfl) hS6 ?_ ?_
      rotate_left
      · intro w' hw'; go_simp; with_reducible rfl
      go_simp
      refine H_take (i := 7) (v := ?_) rfl (by as_aux_lemma => kernel_rfl) (by as_aux_lemma => kernel_rfl) (by as_aux_lemma => kernel_rfl) (fun _ _ _ h => h) (by rfl) hS6 ?_ ?_
      rotate_left
      · intro w' hw'; go_simp; with_reducible rfl
      go_simp
      refine H_take (i := 8) (v := ?_) rfl (by as_aux_lemma => kernel_rfl) (by as_aux_lemma => kernel_rfl) (by as_aux_lemma => kernel_rfl) (fun _ _ _ h => h) (by rfl) hS6 ?_ ?_
      rotate_left
      · intro w' hw'; go_simp; with_reducible rfl
      go_simp
      refine H_take (i := 9) (v := ?_) rfl (by as_aux_lemma => kernel_rfl) (by as_aux_lemma => kernel_rfl) (by as_aux_lemma => kernel_rfl) (fun _ _ _ h => h) (by rfl) hS6 ?_ ?_
      rotate_left
      · intro w' hw'; go_simp; with_reducible rfl
      go_simp
      refine H_take (i := 12) (v := ?_) rfl (by as_aux_lemma => kernel_rfl) (by as_aux_lemma => kernel_rfl) (by as_aux_lemma => kernel_rfl) (fun _ _ _ h => h) (by rfl) hS6 ?_ ?_
      rotate_left
      · intro w' hw'; go_simp; with_reducible rfl
      go_simp
      refine H_one (i := 10) (by as_aux_lemma => kernel_rfl) rfl (by rfl) ?_
      go_simp
      have hS7 : Below W.heap.size W (w4.alloc (.cells #[.int .i64 at', .int .i64 av, .int .i64 bt, .int .i64 bv] 23)) := hS6.alloc hS6.size _
      refine ⟨hS7, ?_⟩
      refine H_one (i := 11) (by as_aux_lemma => kernel_rfl) rfl (by rfl) ?_
      go_simp
      refine (HC2.out w4).mono ?_
      rintro e w5 ⟨rfl, hb5⟩
      have hS8 : Below W.heap.size W w5 := hS6.trans (hb5.mono hS6.size)
      refine ⟨hS8, ?_⟩
      go_simp
      refine H_take (i := 13) (v := ?_) rfl (by as_aux_lemma => kernel_rfl) (by as_aux_lemma => kernel_rfl) (by as_aux_lemma => kernel_rfl) (fun _ _ _ h => h) (by rfl) hS8 ?_ ?_
      rotate_left
      · intro w' hw'; go_simp; with_reducible rfl
      go_simp
      refine H_skip (i := 14) rfl (by as_aux_lemma => kernel_rfl) (by as_aux_lemma => kernel_rfl) (by as_aux_lemma => kernel_rfl) (fun _ _ _ h => h) (by rfl) hS8 ?_
      go_simp
      refine H_take (i := 15) (v := ?_) rfl (by as_aux_lemma => kernel_rfl) (by as_aux_lemma => kernel_rfl) (by as_aux_lemma => kernel_rfl) (fun _ _ _ h => h) (by rfl) hS8 ?_ ?_
      rotate_left
      · intro w' hw'; go_simp; with_reducible rfl
      go_simp
      refine H_take (i := 16) (v := ?_) rfl (by as_aux_lemma => kernel_rfl) (by as_aux_lemma => kernel_rfl) (by as_aux_lemma => kernel_rfl) (fun _ _ _ h => h) (by rfl) hS8 ?_ ?_
      rotate_left
      · intro w' hw'; go_simp; with_reducible rfl
      go_simp
      refine H_take (i := 17) (v := ?_) rfl (by as_aux_lemma => kernel_rfl) (by as_aux_lemma => kernel_rfl) (by as_aux_lemma => kernel_rfl) (fun _ _ _ h => h) (by rfl) hS8 ?_ ?_
      rotate_left
      · intro w' hw'; go_simp; with_reducible rfl
      go_simp
      refine H_take (i := 18) (v := ?_) rfl (by as_aux_lemma => kernel_rfl) (by as_aux_lemma => kernel_rfl) (by as_aux_lemma => kernel_rfl) (fun _ _ _ h => h) (by rfl) hS8 ?_ ?_
      rotate_left
      · intro w' hw'; go_simp; with_reducible rfl
      go_simp
      refine H_take (i := 19) (v := ?_) rfl (by as_aux_lemma => kernel_rfl) (by as_aux_lemma => kernel_rfl) (by as_aux_lemma => kernel_rfl) (fun _ _ _ h => h) (by rfl) hS8 ?_ ?_
      rotate_left
      · intro w' hw'; go_simp; with_reducible rfl
      go_simp
      refine H_take (i := 21) (v := ?_) rfl (by as_aux_lemma => kernel_rfl) (by as_aux_lemma => kernel_rfl) (by as_aux_lemma => kernel_rfl) (fun _ _ _ h => h) (by rfl) hS8 ?_ ?_
      rotate_left
      · intro w' hw'; go_simp; with_reducible rfl
      go_simp
      refine H_take (i := 22) (v := ?_) rfl (by as_aux_lemma => kernel_rfl) (by as_aux_lemma => kernel_rfl) (by as_aux_lemma => kernel_rfl) (fun _ _ _ h => h) (by rfl) hS8 ?_ ?_
      rotate_left
      · intro w' hw'; go_simp; with_reducible rfl
      go_simp
      refine H_take (i := 23) (v := ?_) rfl (by as_aux_lemma => kernel_rfl) (by as_aux_lemma => kernel_rfl) (by as_aux_lemma => kernel_rfl) (fun _ _ _ h => h) (by rfl) hS8 ?_ ?_
      rotate_left
      · intro w' hw'; go_simp; with_reducible rfl
      go_simp
      refine H_one (i := 20) (by as_aux_lemma => kernel_rfl) rfl (by rfl) ?_
      go_simp
      refine (HC3.out w5).mono ?_
      rintro e w6 ⟨rfl, hb6⟩
      have hS9 : Below W.heap.size W w6 := hS8.trans (hb6.mono hS8.size)
      refine ⟨hS9, ?_⟩
      go_simp
      refine H_take (i := 24) (v := ?_) rfl (by as_aux_lemma => kernel_rfl) (by as_aux_lemma => kernel_rfl) (by as_aux_lemma => kernel_rfl) (fun _ _ _ h => h) (by rfl) hS9 ?_ ?_
      rotate_left
      · intro w' hw'; go_simp; with_reducible rfl
      go_simp
      refine H_skip (i := 25) rfl (by as_aux_lemma => kernel_rfl) (by as_aux_lemma => kernel_rfl) (by as_aux_lemma => kernel_rfl) (fun _ _ _ h => h) (by rfl) hS9 ?_
      go_simp
      refine H_skip (i := 26) rfl (by as_aux_lemma => kernel_rfl) (by as_aux_lemma => kernel_rfl) (by as_aux_lemma => kernel_rfl) (fun _ _ _ h => h) (by rfl) hS9 ?_
      go_simp
      refine H_skip (i := 27) rfl (by as_aux_lemma => kernel_rfl) (by as_aux_lemma => kernel_rfl) (by as_aux_lemma => kernel_rfl) (fun _ _ _ h => h) (by rfl) hS9 ?_
      go_simp
      refine H_take (i := 28) (v := ?_) rfl (by as_aux_lemma => kernel_rfl) (by as_aux_lemma => kernel_rfl) (by as_aux_lemma => kernel_rfl) (fun _ _ _ h => h) (by rfl) hS9 ?_ ?_
      rotate_left
      · intro w' hw'; go_simp; with_reducible rfl
      go_simp
      refine H_take (i := 29) (v := ?_) rfl (by as_aux_lemma => kernel_rfl) (by as_aux_lemma => kernel_rfl) (by as_aux_lemma => kernel_rfl) (fun _ _ _ h => h) (by rfl) hS9 ?_ ?_
      rotate_left
      · intro w' hw'; go_simp; with_reducible rfl
      go_simp
      refine H_take (i := 30) (v := ?_) rfl (by as_aux_lemma => kernel_rfl) (by as_aux_lemma => kernel_rfl) (by as_aux_lemma => kernel_rfl) (fun _ _ _ h => h) (by rfl) hS9 ?_ ?_
      rotate_left
      · intro w' hw'; go_simp; with_reducible rfl
      go_simp
      refine H_take (i := 31) (v := ?_) rfl (by as_aux_lemma => kernel_rfl) (by as_aux_lemma => kernel_rfl) (by as_aux_lemma => kernel_rfl) (fun _ _ _ h => h) (by rfl) hS9 ?_ ?_
      rotate_left
      · intro w' hw'; go_simp; with_reducible rfl
      go_simp
      refine wpAnyH_done (by as_aux_lemma => kernel_rfl) ?_ _
      have HS9 := Lib.hid hS9
      clear q0 q1 q2 q3 q4 q5 hb4 hb5 hb6 hS4 hS5 hS6 hS7 hS8 hS9
      go_wp2_with fail
      go_ret
      exact ⟨rfl, HBW.out.trans (HS9.out.mono HBW.out.size)⟩
end Go.Proofs.YtikcdchmggdmdaaDoor.M

/- Part: OpenState. -/
namespace Go.Proofs.YtikcdchmggdmdaaDoor.M
open Go.RowKit

set_option maxRecDepth 20000 in
open Go.ChangeShapes Go.WideShapes Go.ChangeAt in
theorem state_in {H : Type} {enc : TypeId × Value → H} {W : World} {base : Nat} {v : Value} {d : DataW H} {p : List MemPlace} (h : DataW.Trod enc Tryd.prog W 0 (fun _ => true) true 23 v d p)
    (hk : Value.okWide Tryd.prog W .any base 23 v) : ∃ s : Int × Int, v = stV s ∧ -9223372036854775808 ≤ s.1 ∧ s.1 ≤ 9223372036854775807 ∧ -9223372036854775808 ≤ s.2 ∧ s.2 ≤ 9223372036854775807 := by
  unfold Value.okWide at hk
  rw [Tryd.underlying23] at hk
  obtain ⟨cs, rfl, hs, -⟩ := hk
  rw [show Tryd.prog.cellsOf 23 = 2 from by kernel_rfl] at hs
  obtain ⟨fuel, hf⟩ := h
  obtain ⟨l⟩ := cs
  match l, hs with
  | [c0, c1], _ =>
    obtain ⟨y0, y1, n, -, -, h0, h1⟩ := trod_struct2 Tryd.underlying23 hf
    have hc : Tryd.prog.cellsOf 3 = 1 := by kernel_rfl
    simp only [hc, List.drop_zero, List.take_succ_cons, List.take_zero, List.drop_succ_cons] at h0 h1
    obtain ⟨z0, e0, -, b0⟩ := DataW.trod_int Tryd.underlying3 h0
    obtain ⟨z1, e1, -, b1⟩ := DataW.trod_int Tryd.underlying3 h1
    cases e0; cases e1
    have a0 := bounds_i64 b0
    have a1 := bounds_i64 b1
    exact ⟨(z0, z1), rfl, a0.1, a0.2, a1.1, a1.2⟩
end Go.Proofs.YtikcdchmggdmdaaDoor.M

/- Part: TabLaid. -/
namespace Go.Proofs.YtikcdchmggdmdaaDoor.M
open Go.RowKit Go.ChangeShapes Go.WideShapes Go.ChangeAt

theorem gTab : Tryd.prog.globalNamed "echelon/sum.nibbles" = some 0 := by kernel_rfl
theorem gTabType : (Tryd.prog.globals[0]?).map (·.type) = some 139 := by kernel_rfl
theorem cellsTab : Tryd.prog.cellsOf 139 = 16 := by kernel_rfl
theorem cellsU32 : Tryd.prog.cellsOf 97 = 1 := by kernel_rfl

theorem tabTable {W : World} (h : laidMetH Tryd.prog [("echelon/sum.nibbles", Rows.laid_echelon_sum_nibbles)] W) : Lib.TabIs Tryd.prog W "echelon/sum.nibbles" .u32 [0, 274646895, 549293790, 820201905, 1098587580, 1361435347, 1640403810, 1905808397, 2197175160, 2460548119, 2722870694, 2987750089, 3280807620, 3553878443, 3811616794, 4084100981] :=
  Lib.tabIs_of_head (rest := []) gTab gTabType Tryd.underlying139 Tryd.underlying97 cellsU32 cellsTab h

theorem tab_of {W : World} (h : laidMetH Tryd.prog [("echelon/sum.nibbles", Rows.laid_echelon_sum_nibbles)] W) : Tab W := by
  have hc : ∀ k, k < 16 → W.cell? ⟨0, k, none⟩ = some (.int .u32 (nibT.getD k 0 : Nat)) := fun k hk => by
    have := (tabTable h).cell gTab k hk
    rw [this]
    rcases (show k = 0 ∨ k = 1 ∨ k = 2 ∨ k = 3 ∨ k = 4 ∨ k = 5 ∨ k = 6 ∨ k = 7 ∨ k = 8 ∨ k = 9 ∨ k = 10 ∨ k = 11 ∨ k = 12 ∨ k = 13 ∨ k = 14 ∨ k = 15 by omega) with h | h | h | h | h | h | h | h | h | h | h | h | h | h | h | h
    all_goals (subst h; rfl)
  refine ⟨?_, hc⟩
  have h0 := hc 0 (by omega)
  rcases Nat.lt_or_ge 0 W.heap.size with h1 | h1
  · exact h1
  · unfold World.cell? at h0
    simp [Array.getElem?_eq_none h1] at h0

/-- A world for the witness: the settled one, the table (block 0) holding what its initialiser lays. -/
noncomputable def laidWorld (os : Os) : World :=
  { World.holding Tryd.prog os ⟨#[], #[], []⟩ with heap := (World.holding Tryd.prog os ⟨#[], #[], []⟩).heap.modify 0 fun
      | .cells _ t frozen => .cells #[.int .u32 0, .int .u32 274646895, .int .u32 549293790, .int .u32 820201905, .int .u32 1098587580, .int .u32 1361435347, .int .u32 1640403810, .int .u32 1905808397, .int .u32 2197175160, .int .u32 2460548119, .int .u32 2722870694, .int .u32 2987750089, .int .u32 3280807620, .int .u32 3553878443, .int .u32 3811616794, .int .u32 4084100981] t frozen
      | o => o }
end Go.Proofs.YtikcdchmggdmdaaDoor.M
