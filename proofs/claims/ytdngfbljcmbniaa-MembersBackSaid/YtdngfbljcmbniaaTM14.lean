/- Package members: who votes, who is in it; the library's Contains and ContainsFunc; which configurations are right. -/
import Derived.Test.YtdngfbljcmbniaaTM12
import Derived.Test.YtdngfbljcmbniaaTM13
namespace Go.Proofs.Ytdngfbljcmbniaa.M
open Go.RowKit

theorem RepI.below {w w' : World} {F : Nat → Prop} {l : List Int} {v : Value} (h : RepI w F l v) (hF : ∀ k, F k → k < w.heap.size) (hb : Below w.heap.size w w') : RepI w' F l v := h.same (fun _ h => h) fun k hk => hb.block k (hF k hk)

theorem fContains : Try.laysContains_ren.f 107 = 53 := by kernel_rfl

theorem Contains_any (l : List Int) (x : Int) (F : Nat → Prop) (v : Value) (w : World) (hv : RepI w F l v) :
    Calls Try.prog 53 #[v, .int .i64 x] w fun e w' => e = .returned (.bool (yes (x ∈ l))) ∧ w' = w := by
  have hy : yes (x ∈ l) = l.contains x := yes_of (by simp)
  rw [hy, ← fContains]
  rcases hv with ⟨rfl, a, c, rfl, h1, h2⟩ | ⟨b, off, c, rfl, hb, h1, h2, h3⟩
  · exact (Any.slices_Contains_int_empty Try.laysContains a c x w)
  · have h := Any.slices_Contains_int Try.laysContains b off l.length c l x w (Nat.le_refl _) (by omega) fun j hj => by
      rw [List.getD_eq_getElem?_getD, List.getElem?_eq_getElem hj]
      exact (h3 j hj).1
    rw [List.take_length] at h
    exact h

set_option maxRecDepth 20000 in
theorem Votes_any (c : Cf) (x : Int) (F : Nat → Prop) (vv lv : Value) (w : World) (hv : RepI w F c.v vv) (hl : RepI w F c.l lv) (hF : ∀ k, F k → k < w.heap.size) :
    Calls Try.prog 33 #[.agg #[vv, lv], .int .i64 x] w fun e w' => e = .returned (.bool (yes (x ∈ c.v))) ∧ Below w.heap.size w w' := by
  obtain ⟨a, k, rfl, -⟩ := hv.slice
  obtain ⟨a', k', rfl, -⟩ := hl.slice
  have HV := Lib.hid hv
  have HF := Lib.hid hF
  clear hv hl hF
  go_enter Try.func33, Try.ntmps33
  go_wp2_with fail
  refine (Contains_any c.v x F _ _ (HV.out.below HF.out (below_alloc _ _))).mono ?_
  rintro e w' ⟨rfl, rfl⟩
  go_wp2_with fail
  go_ret
  exact ⟨rfl, below_alloc _ _⟩

set_option maxRecDepth 20000 in
theorem Has_any (c : Cf) (x : Int) (F : Nat → Prop) (vv lv : Value) (w : World) (hv : RepI w F c.v vv) (hl : RepI w F c.l lv) (hF : ∀ k, F k → k < w.heap.size) :
    Calls Try.prog 58 #[.agg #[vv, lv], .int .i64 x] w fun e w' => e = .returned (.bool (yes (x ∈ c.v ∨ x ∈ c.l))) ∧ Below w.heap.size w w' := by
  obtain ⟨a, k, rfl, -⟩ := hv.slice
  obtain ⟨a', k', rfl, -⟩ := hl.slice
  obtain ⟨W, hW⟩ : ∃ W, W = w.alloc (.cells #[.slice a c.v.length k, .slice a' c.l.length k'] 25) := ⟨_, rfl⟩
  have HB : Hid (Below w.heap.size w W) := Lib.hid (by rw [hW]; exact below_alloc _ _)
  obtain ⟨g, hg⟩ : ∃ g, g = w.heap.size := ⟨_, rfl⟩
  have HC : Hid (∀ w' : World, Below W.heap.size W w' → w'.cell? ⟨g, 1, none⟩ = some (.slice a' c.l.length k') ∧ g < w'.heap.size) := Lib.hid fun w' hb => by
    have h0 := fun j => cell_of_row W w.heap.size j _ _ _ (by rw [hW]; exact heap_alloc_new w (.cells #[.slice a c.v.length k, .slice a' c.l.length k'] 25))
    have hz : g < W.heap.size := by rw [hW, hg]; simp
    rw [← hg] at h0
    exact ⟨(World.cell?_of_block (a := ⟨g, 1, none⟩) (hb.block g hz)).trans (h0 1), Nat.lt_of_lt_of_le hz hb.size⟩
  have HV := Lib.hid hv
  have HL := Lib.hid hl
  have HF := Lib.hid hF
  have HG := Lib.hid hg
  have HW := Lib.hid hW
  clear hv hl hF hg hW
  go_enter Try.func58, Try.ntmps58
  go_wp2_with fail
  rw [← HG.out, ← HW.out]
  refine (Votes_any c x F _ _ W (HV.out.below HF.out HB.out) (HL.out.below HF.out HB.out) fun k hk => Nat.lt_of_lt_of_le (HF.out k hk) HB.out.size).mono ?_
  rintro e w' ⟨rfl, hb⟩
  obtain ⟨hc1, hg1⟩ := HC.out w' hb
  have HB2 : Hid (Below w.heap.size w w') := Lib.hid (HB.out.trans (hb.mono HB.out.size))
  clear hb
  by_cases hx : x ∈ c.v
  · have hy : yes (x ∈ c.v) = true := yes_t hx
    have hy2 : Hid (yes (x ∈ c.v ∨ x ∈ c.l) = true) := Lib.hid (yes_t (.inl hx))
    rw [hy]
    go_wp2_with fail
    go_ret
    exact ⟨by rw [hy2.out]; rfl, HB2.out⟩
  · have hy : yes (x ∈ c.v) = false := yes_f hx
    have hy2 : Hid (yes (x ∈ c.v ∨ x ∈ c.l) = yes (x ∈ c.l)) := Lib.hid (yes_congr ⟨fun h => h.resolve_left hx, .inr⟩)
    rw [hy]
    go_wp2_with fail
    refine (Contains_any c.l x F _ _ (HL.out.below HF.out HB2.out)).mono ?_
    rintro e w3 ⟨rfl, rfl⟩
    go_wp2_with fail
    go_ret
    exact ⟨by rw [hy2.out]; rfl, HB2.out⟩
end Go.Proofs.Ytdngfbljcmbniaa.M
