/- The law package's examples of layer 10. -/
import Derived.Test.YtckankoaiapcoaaTM11
import Derived.Test.YtckankoaiapcoaaTM12
namespace Go.Proofs.Ytckankoaiapcoaa.M
open Go.RowKit Go.Maps
open Tm (Al at' alt swL Pl HpF UpI DnI Sm srt setS clrS Uq)

/-- Alarms in a law's own memory. -/
structure AW (w0 : World) (X : Nat → Prop) (ga : Nat) (l : List Al) (wr : World) : Prop where
  alm : AlS wr X ga l
  lo : ∀ q, X q → w0.heap.size ≤ q ∧ q < wr.heap.size
  below : Below w0.heap.size w0 wr

theorem AW.next {w0 wr w' : World} {X : Nat → Prop} {ga : Nat} {l : List Al} (h : AW w0 X ga l wr) (hb : Below wr.heap.size wr w') : AW w0 X ga l w' :=
  ⟨h.alm.next hb, fun q hq => ⟨(h.lo q hq).1, Nat.lt_of_lt_of_le (h.lo q hq).2 hb.size⟩, h.below.trans (hb.mono h.below.size)⟩

theorem AW.post {w0 wr w' : World} {X : Nat → Prop} {ga : Nat} {l l' : List Al} (h : AW w0 X ga l wr) (hp : MPost X ga l' wr w') : AW w0 (More X wr w') ga l' w' :=
  ⟨hp.2, fun q hq => by
    rcases hq with hq | hq
    · exact ⟨(h.lo q hq).1, Nat.lt_of_lt_of_le (h.lo q hq).2 hp.1.size⟩
    · exact ⟨Nat.le_trans h.below.size hq.1, hq.2⟩, below_only h.below hp.1 fun q hq => (h.lo q hq).1⟩

theorem AW.due {w0 wr w' : World} {X : Nat → Prop} {ga : Nat} {l l' : List Al} (h : AW w0 X ga l wr) (ho : Only X wr w') (ha : AlS w' X ga l') : AW w0 X ga l' w' :=
  ⟨ha, fun q hq => ⟨(h.lo q hq).1, Nat.lt_of_lt_of_le (h.lo q hq).2 ho.size⟩, below_only h.below ho fun q hq => (h.lo q hq).1⟩

theorem AlS.none {w : World} {ga : Nat} (h : w.heap[ga]? = some (.cells #[.slice none 0 0, .map none] 42)) : AlS w (fun q => q = ga) ga [] :=
  ⟨[], .inl ⟨rfl, h, rfl⟩, Tm.Sm.refl _, fun k _ hk => by simp at hk, by unfold Tm.srt; simp⟩

theorem AW.new {w0 wr : World} {ga : Nat} (hb : Below w0.heap.size w0 wr) (hg : ga = wr.heap.size) : AW w0 (fun q => q = ga) ga [] (wr.alloc (.cells #[.slice none 0 0, .map none] 42)) :=
  ⟨AlS.none (heap_new _ _ _ hg), fun q hq => by have := hb.size; rw [hq, hg]; simp; omega, hb.alloc hb.size _⟩

set_option maxRecDepth 20000 in
set_option maxHeartbeats 3200000 in
theorem awake10_any (w : World) : Calls Try.prog 8 #[] w fun e w' => e = .returned (.bool true) ∧ Below w.heap.size w w' := by
  have HN := Lib.hid (New_any 2 5 (by omega) w)
  have qT : ∀ (w : World) (a : Addr), (binOp .eql 29 (.pointer (some a)) (.pointer none)).run Try.prog w = .ok (.bool false) w := fun _ _ => by kernel_rfl
  go_enter Try.func8, Try.ntmps8
  go_wp2_with fail
  refine HN.out.mono ?_
  rintro e w1 (⟨h, _⟩ | ⟨-, rfl, hb1, ht1⟩)
  · exact absurd (by unfold fairI; omega) h
  rw [show spanI 2 5 = 3 by decide] at ht1
  obtain ⟨gt, hgt⟩ : ∃ gt, gt = w.heap.size := ⟨_, rfl⟩
  rw [← hgt] at ht1 ⊢
  have HGT := Lib.hid hgt
  have HB1 := Lib.hid hb1
  have HT1 := Lib.hid (Tick_any gt 2 3 (by omega) w1 ht1)
  clear HN hb1 ht1 hgt
  go_wp2_with fail
  refine HT1.out.mono ?_
  rintro e w2 ⟨rfl, ho2, ht2⟩
  rw [show tickI 3 = 2 by decide] at ht2
  rw [show decide (tickI 3 = 0) = false by decide]
  have HB2 : Hid (Below w.heap.size w w2) := Lib.hid (below_only HB1.out ho2 fun k hk => by rw [hk, HGT.out]; exact Nat.le_refl _)
  have HT2 := Lib.hid (Tick_any gt 2 2 (by omega) w2 ht2)
  clear HT1 ho2 ht2
  go_wp2_with fail
  refine HT2.out.mono ?_
  rintro e w3 ⟨rfl, ho3, ht3⟩
  rw [show tickI 2 = 1 by decide] at ht3
  rw [show decide (tickI 2 = 0) = false by decide]
  have HB3 : Hid (Below w.heap.size w w3) := Lib.hid (below_only HB2.out ho3 fun k hk => by rw [hk, HGT.out]; exact Nat.le_refl _)
  have HT3 := Lib.hid (Tick_any gt 2 1 (by omega) w3 ht3)
  clear HT2 ho3 ht3
  go_wp2_with fail
  refine HT3.out.mono ?_
  rintro e w4 ⟨rfl, ho4, ht4⟩
  rw [show tickI 1 = 0 by decide] at ht4
  rw [show decide (tickI 1 = 0) = true by decide]
  have HB4 : Hid (Below w.heap.size w w4) := Lib.hid (below_only HB3.out ho4 fun k hk => by rw [hk, HGT.out]; exact Nat.le_refl _)
  have HT4 := Lib.hid (Tick_any gt 2 0 (by omega) w4 ht4)
  clear HT3 ho4 ht4
  go_wp2_with fail
  refine HT4.out.mono ?_
  rintro e w5 ⟨rfl, ho5, ht5⟩
  rw [show decide (tickI 0 = 0) = true by decide]
  have HB5 : Hid (Below w.heap.size w w5) := Lib.hid (below_only HB4.out ho5 fun k hk => by rw [hk, HGT.out]; exact Nat.le_refl _)
  obtain ⟨ga, hga⟩ : ∃ ga, ga = w5.heap.size := ⟨_, rfl⟩
  obtain ⟨W, hW⟩ : ∃ W, W = w5.alloc (.cells #[.slice none 0 0, .map none] 42) := ⟨_, rfl⟩
  have haw : AW w (fun q => q = ga) ga [] W := by rw [hW]; exact AW.new HB5.out hga
  obtain ⟨W6, hW6⟩ : ∃ W6, W6 = W.alloc (.cells #[.int .i64 2, .int .i64 1] 3) := ⟨_, rfl⟩
  have hb6 : Below W.heap.size W W6 := by rw [hW6]; exact below_alloc _ _
  have hWs : W.heap.size = ga + 1 := by rw [hW, hga]; simp
  have hr6 : RepI W6 (fun b => b < W6.heap.size ∧ b = ga + 1) [2, 1] (.slice (some ⟨ga + 1, 0, none⟩) 2 2) := by
    have h1 := RepI.lit (w := W) (l := [2, 1]) (g := ga + 1) (cs := #[.int .i64 2, .int .i64 1]) hWs.symm rfl (by simp) (by intro z hz; simp at hz; omega) (n := 2) rfl
    rw [← hW6] at h1
    refine ((h1.exact (g' := ga + 1) rfl)).same (fun k hk => ⟨?_, hk⟩) fun _ _ => rfl
    rw [hk, hW6]; simp; omega
  have haw6 := haw.next hb6
  have HS1 := Lib.hid (Set_any ga _ [] 5 (by unfold In1; omega) [2, 1] _ _ (by simp) W6 haw6.alm hr6 fun k hk => ⟨hk.1, fun h => by have := hk.2; omega⟩)
  have HAW6 := Lib.hid haw6
  have HW := Lib.hid hW
  have HW6 := Lib.hid hW6
  have HGA := Lib.hid hga
  have HGS : Hid (W6.heap.size = ga + 2) := Lib.hid (by rw [hW6]; simp; omega)
  have HWS := Lib.hid hWs
  clear HT4 ho5 ht5 hga hW haw hW6 hb6 hWs hr6 haw6
  go_wp2_with fail
  rw [← HGA.out, ← HW.out, ← HW6.out]
  refine HS1.out.mono ?_
  rintro e w7 ⟨rfl, hm7⟩
  have haw7 := HAW6.out.post hm7
  rw [show setsS [] 5 [2, 1] = [(5, 1), (5, 2)] by decide] at haw7
  obtain ⟨X1, hX1⟩ : ∃ X1, X1 = More (fun q => q = ga) W6 w7 := ⟨_, rfl⟩
  rw [← hX1] at haw7
  obtain ⟨g8, hg8⟩ : ∃ g8, g8 = w7.heap.size := ⟨_, rfl⟩
  obtain ⟨W8, hW8⟩ : ∃ W8, W8 = w7.alloc (.cells #[.int .i64 7] 3) := ⟨_, rfl⟩
  have hb8 : Below w7.heap.size w7 W8 := by rw [hW8]; exact below_alloc _ _
  have hr8 : RepI W8 (fun b => b < W8.heap.size ∧ b = g8) [7] (.slice (some ⟨g8, 0, none⟩) 1 1) := by
    have h1 := RepI.lit (w := w7) (l := [7]) (g := g8) (cs := #[.int .i64 7]) hg8 rfl (by simp) (by intro z hz; simp at hz; omega) (n := 1) rfl
    rw [← hW8] at h1
    refine ((h1.exact (g' := g8) rfl)).same (fun k hk => ⟨?_, hk⟩) fun _ _ => rfl
    rw [hk, hW8, hg8]; simp
  have haw8 := haw7.next hb8
  have HS2 := Lib.hid (Set_any ga _ [(5, 1), (5, 2)] 3 (by unfold In1; omega) [7] _ _ (by simp) W8 haw8.alm hr8 fun k hk => ⟨hk.1, fun h => by have h5 := (haw7.lo k h).2; have h6 := hk.2; omega⟩)
  have HAW8 := Lib.hid haw8
  have HW8 := Lib.hid hW8
  have HG8 := Lib.hid hg8
  clear HS1 hm7 haw7 hX1 hW8 hb8 hr8 haw8 hg8
  go_wp2_with fail
  rw [← HG8.out, ← HW8.out]
  refine HS2.out.mono ?_
  rintro e w9 ⟨rfl, hm9⟩
  have haw9 := HAW8.out.post hm9
  rw [show setsS [(5, 1), (5, 2)] 3 [7] = [(3, 7), (5, 1), (5, 2)] by decide] at haw9
  obtain ⟨X2, hX2⟩ : ∃ X2, X2 = More X1 W8 w9 := ⟨_, rfl⟩
  rw [← hX2] at haw9
  have HD1 := Lib.hid (Due_any ga X2 _ 4 w9 haw9.alm (fun q hq => (haw9.lo q hq).2) (by simp))
  have HAW9 := Lib.hid haw9
  clear HS2 hm9 haw9 hX2
  go_wp2_with fail
  refine HD1.out.mono ?_
  rintro e wa ⟨xv, rfl, hoa, haa, hxa⟩
  have hawa := HAW9.out.due hoa haa
  rw [show dueN [((3 : Int), (7 : Int)), (5, 1), (5, 2)] 4 = 1 by decide] at hawa
  rw [show dueK [((3 : Int), (7 : Int)), (5, 1), (5, 2)] 4 = [7] by decide] at hxa
  have hawa : AW w X2 ga [(5, 1), (5, 2)] wa := hawa
  have HD2 := Lib.hid (Due_any ga X2 _ 5 wa hawa.alm (fun q hq => (hawa.lo q hq).2) (by simp))
  have HAWa := Lib.hid hawa
  have HXA := Lib.hid hxa
  have HS9 : Hid (∀ q, X2 q → q < w9.heap.size) := Lib.hid fun q hq => (HAW9.out.lo q hq).2
  clear HD1 hoa haa hxa hawa
  go_wp2_with fail
  refine HD2.out.mono ?_
  rintro e wb ⟨yv, rfl, hob, hab, hyb⟩
  have hawb := HAWa.out.due hob hab
  rw [show dueK [((5 : Int), (1 : Int)), (5, 2)] 5 = [1, 2] by decide] at hyb
  have hxb := HXA.out.apart hob HS9.out
  obtain ⟨xa, xc, rfl⟩ := hxb.slice
  obtain ⟨ya, yc, rfl⟩ := hyb.slice
  obtain ⟨bx, ox, rfl, -, x0, -⟩ := hxb.rep.elem 0 (by simp)
  obtain ⟨by', oy, hyv, -, y0, -⟩ := hyb.rep.elem 0 (by simp)
  subst hyv
  obtain ⟨by2, oy2, hyv, -, y1, -⟩ := hyb.rep.elem 1 (by simp)
  cases hyv
  simp only [List.getElem_cons_zero, List.getElem_cons_succ, List.length_cons, List.length_nil, Nat.reduceAdd, Nat.add_zero] at x0 y0 y1 ⊢
  have HSP := Lib.hid (Span_any 10 37 (by omega) wb)
  rw [show spanI 10 37 = 17 by decide] at HSP
  have HBB := Lib.hid hawb.below
  clear HD2 hob hab hyb hawb hxb
  go_wp2_with fail
  refine HSP.out.mono ?_
  rintro e wc ⟨rfl, rfl⟩
  go_wp2_with fail
  go_ret
  exact ⟨rfl, HBB.out⟩
end Go.Proofs.Ytckankoaiapcoaa.M
