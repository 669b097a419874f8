/- The document's examples, as law 1's statements begin with them. -/
import Derived.Test.YtafodaoehnggfaaMouldTake
namespace Go.Proofs.Ytafodaoehnggfaa.M
open Go.RowKit

theorem ex1 : putAll [110] [.mk 258 [] []] = .ok [2, 1, 2] := by kernel_rfl
theorem ex2 : putAll [91, 110, 98, 93] [.mk 0 [] [.mk 7 [] [], .mk 0 [] []]] = .ok [1, 7, 0] := by kernel_rfl
theorem ex3 : takeAt [110] [2, 0, 1] = .error 13 := by kernel_rfl
theorem ex4 : takeAt [42, 110] [1, 2, 1, 1, 0] = .ok (.mk 0 [] [.mk 1 [] [], .mk 0 [] []]) := by kernel_rfl
theorem ex5 : (shape [91, 93]).isSome = true := by kernel_rfl
theorem ex6 : (shape [42]).isSome = false := by kernel_rfl

/-- Bytes in a new block. -/
theorem RepB.new {w : World} {L : List UInt8} {t : TypeId} {g : Nat} (hg : g = w.heap.size) (hl : L.length ≤ 9223372036854775807) :
    RepB (w.alloc (.cells (L.map byteV).toArray t)) (fun b => b = g) L (.slice (some ⟨g, 0, none⟩) L.length L.length) := by
  subst hg
  refine .inr ⟨w.heap.size, 0, L.length, rfl, rfl, Nat.le_refl _, hl, fun i hi => ?_⟩
  have := cell_of_row _ w.heap.size (0 + i) _ t _ (heap_alloc_new w (.cells (L.map byteV).toArray t))
  rw [this]
  simp [hi, byteV]

theorem RepT.one {w : World} {s : ByteArray} {t : TypeId} {g : Nat} (hg : g = w.heap.size) (hs : s.size ≤ 9223372036854775807) :
    RepT (w.alloc (.cells #[.string s] t)) [s] (.slice (some ⟨g, 0, none⟩) 1 1) := by
  subst hg
  refine ⟨_, 1, rfl, by simp, fun i hi => ?_⟩
  obtain rfl : i = 0 := by simpa using hi
  exact ⟨w.heap.size, 0, rfl, cell_of_row _ w.heap.size 0 _ t _ (heap_alloc_new w (.cells #[.string s] t)), hs⟩

set_option maxHeartbeats 1600000 in
theorem awake_any (w : World) : Calls Try.prog 7 #[] w fun e w' => e = .returned (.bool true) ∧ Below w.heap.size w w' := by
  go_enter Try.func7, Try.ntmps7
  go_wp2_with fail
  have hv1 : RepVl (w.alloc (.cells #[.int .u64 258, .slice none 0 0, .slice none 0 0] 31)) (fun b => b = w.heap.size) [.mk 258 [] []] (.slice (some ⟨w.heap.size, 0, none⟩) 1 1) :=
    RepVl.one (w := w) (F := fun _ => False) (RepV_mk.2 ⟨_, _, rfl, by omega, .inl ⟨rfl, Bare.nil⟩, .inl ⟨rfl, Bare.nil⟩⟩) (heap_new _ _ _ rfl) (fun _ h => h.elim) (fun _ h => h.elim) rfl
  refine (Put_any ⟨#[110]⟩ [.mk 258 [] []] _ _ _ (by decide) hv1 (fun b hb => by rw [hb]; simp) (by simp [vsizes, vsize])).mono ?_
  rintro e w1 ⟨hb1, hp⟩
  rw [show (⟨#[110]⟩ : ByteArray).data.toList = [110] from rfl, ex1] at hp
  obtain ⟨v1, rfl, hown1⟩ := hp
  have hB1 : Below w.heap.size w w1 := (below_alloc _ _).trans (hb1.mono (by simp))
  have HR1 := Lib.hid (RepB.of_own hown1)
  have HB1 := Lib.hid hB1
  clear hv1 hb1 hown1 hB1
  go_wp2_with fail
  have hv2 : RepVl ((w1.alloc (.cells #[.int .u64 7, .slice none 0 0, .slice none 0 0, .int .u64 0, .slice none 0 0, .slice none 0 0] 31)).alloc
      (.cells #[.int .u64 0, .slice none 0 0, .slice (some ⟨w1.heap.size, 0, none⟩) 2 2] 31)) (fun b => b = w1.heap.size ∨ b = w1.heap.size + 1) [.mk 0 [] [.mk 7 [] [], .mk 0 [] []]] (.slice (some ⟨w1.heap.size + 1, 0, none⟩) 1 1) := by
    refine RepVl.one (w := w1.alloc (.cells #[.int .u64 7, .slice none 0 0, .slice none 0 0, .int .u64 0, .slice none 0 0, .slice none 0 0] 31)) (F := fun b => b = w1.heap.size) (RepV_mk.2 ⟨_, _, rfl, by omega, .inl ⟨rfl, Bare.nil⟩, .inr ⟨w1.heap.size, 0, 2, rfl, rfl, by simp, by omega, ?_⟩⟩) (heap_new _ _ _ (by simp)) (fun b hb => by rw [hb, Below.heap_alloc _ _ _ (by simp)]) (fun b hb => .inl hb) (.inr rfl)
    have hc := fun j => cell_of_row _ w1.heap.size j _ 31 _ (heap_alloc_new w1 (.cells #[.int .u64 7, .slice none 0 0, .slice none 0 0, .int .u64 0, .slice none 0 0, .slice none 0 0] 31))
    unfold RepVs RepVs RepVs
    exact ⟨⟨_, ⟨_, _, _, rfl, hc 0, hc 1, hc 2⟩, RepV_mk.2 ⟨_, _, rfl, by omega, .inl ⟨rfl, Bare.nil⟩, .inl ⟨rfl, Bare.nil⟩⟩⟩, ⟨_, ⟨_, _, _, rfl, hc 3, hc 4, hc 5⟩, RepV_mk.2 ⟨_, _, rfl, by omega, .inl ⟨rfl, Bare.nil⟩, .inl ⟨rfl, Bare.nil⟩⟩⟩, trivial⟩
  refine (Put_any ⟨#[91, 110, 98, 93]⟩ [.mk 0 [] [.mk 7 [] [], .mk 0 [] []]] _ _ _ (by decide) hv2 (fun b hb => by rcases hb with hb | hb <;> (rw [hb]; simp; try omega)) (by simp [vsizes, vsize])).mono ?_
  rintro e w2 ⟨hb2, hp⟩
  rw [show (⟨#[91, 110, 98, 93]⟩ : ByteArray).data.toList = [91, 110, 98, 93] from rfl, ex2] at hp
  obtain ⟨v2, rfl, hown2⟩ := hp
  have hB2 : Below w1.heap.size w1 w2 := (((below_alloc _ _).alloc (by simp) _).trans (hb2.mono (by simp; omega)))
  have HR2 := Lib.hid (RepB.of_own hown2)
  have HB2 := Lib.hid hB2
  have hz2 := hb2.size
  simp only [World.size_alloc] at hz2
  clear hv2 hb2 hown2 hB2
  go_wp2_with fail
  refine (Take_any ⟨#[110]⟩ [2, 0, 1] _ _ _ (by decide) (RepB.new (L := [2, 0, 1]) (t := 5) rfl (by simp)) (fun b hb => by rw [hb]; simp) (by simp)).mono ?_
  rintro e w3 ⟨hb3, hp⟩
  rw [show (⟨#[110]⟩ : ByteArray).data.toList = [110] from rfl, ex3] at hp
  subst hp
  have hz3 := hb3.size
  simp only [World.size_alloc] at hz3
  have HB3 : Hid (Below w2.heap.size w2 w3) := Lib.hid ((below_alloc _ _).trans (hb3.mono (by simp)))
  clear hb3
  go_wp2_with fail
  refine (Take_any ⟨#[42, 110]⟩ [1, 2, 1, 1, 0] _ _ _ (by decide) (RepB.new (L := [1, 2, 1, 1, 0]) (t := 5) (by simp) (by simp)) (fun b hb => by rw [hb]; simp) (by simp)).mono ?_
  rintro e w4 ⟨hb4, hp⟩
  rw [show (⟨#[42, 110]⟩ : ByteArray).data.toList = [42, 110] from rfl, ex4] at hp
  obtain ⟨u4, rfl, hu4⟩ := hp
  have hz4 := hb4.size
  simp only [World.size_alloc] at hz4
  have HB4 : Hid (Below w3.heap.size w3 w4) := Lib.hid (((below_alloc _ _).alloc (by simp) _).trans (hb4.mono (by simp; omega)))
  obtain ⟨ub, ul, rfl, -, hub, hul⟩ := RepV_mk.1 hu4
  obtain ⟨ba, bc, rfl, -⟩ := hub.slice
  rcases hul with ⟨h, -⟩ | ⟨eb, eoff, ec, rfl, ⟨-, hlt⟩, h1, h2, hel⟩
  · cases h
  obtain ⟨u0, ⟨x, y, z, rfl, e0, -, -⟩, hu0⟩ := RepVs.get _ hel 0 (by simp)
  have hx : x = .int .u64 1 := by
    obtain ⟨_, _, h, _⟩ := RepV_mk.1 hu0
    simp at h
    exact h.1
  subst hx
  simp only [Nat.zero_mul, Nat.add_zero] at e0
  have hB34 : Below w2.heap.size w2 w4 := HB3.out.trans (HB4.out.mono (by omega))
  have hr1 : RepB w4 (fun b => b < w4.heap.size) [2, 1, 2] v1 := HR1.out.same (fun b hb => by have : b < w1.heap.size := hb.2; omega) fun b hb => by
    have : b < w1.heap.size := hb.2
    rw [hB34.block b (by omega), HB2.out.block b this]
  have hr2 : RepB w4 (fun b => b < w4.heap.size) [1, 7, 0] v2 := HR2.out.same (fun b hb => by have : b < w2.heap.size := hb.2; omega) fun b hb => by
    have : b < w2.heap.size := hb.2
    rw [hB34.block b this]
  have hs1 : ∀ o, (convert 29 9 v1).run Try.prog (w4.alloc o) = .ok (.string ⟨#[2, 1, 2]⟩) (w4.alloc o) := fun o =>
    run_string (P := Try.prog) (hr1.same (fun _ h => h) fun b hb => Below.heap_alloc _ _ _ hb) 29 5 9 Try.underlying29 Try.underlying5 Try.underlying9
  have hs2 : ∀ o, (convert 29 9 v2).run Try.prog (w4.alloc o) = .ok (.string ⟨#[1, 7, 0]⟩) (w4.alloc o) := fun o =>
    run_string (P := Try.prog) (hr2.same (fun _ h => h) fun b hb => Below.heap_alloc _ _ _ hb) 29 5 9 Try.underlying29 Try.underlying5 Try.underlying9
  have HB : Hid (Below w.heap.size w w4) := Lib.hid (HB1.out.trans ((HB2.out.mono HB1.out.size).trans (hB34.mono (Nat.le_trans HB1.out.size HB2.out.size))))
  clear hb4 hu4 hub hel hu0 hB34 hr1 hr2
  go_wp2_with fail
  refine (Right_any [⟨#[91, 93]⟩] _ _ (RepT.one (by simp) (by decide))).mono ?_
  rintro e w5 ⟨he, hb5⟩
  rw [show ([(⟨#[91, 93]⟩ : ByteArray)].all fun s => (shape s.data.toList).isSome) = true from by simp [ex5]] at he
  subst he
  go_wp2_with fail
  refine (Right_any [⟨#[42]⟩] _ _ (RepT.one (by simp) (by decide))).mono ?_
  rintro e w6 ⟨he, hb6⟩
  rw [show ([(⟨#[42]⟩ : ByteArray)].all fun s => (shape s.data.toList).isSome) = false from by simp [ex6]] at he
  subst he
  have hz5 := hb5.size
  have hwz := HB.out.size
  simp only [World.size_alloc] at hz5
  have HF : Hid (Below w.heap.size w w6) := Lib.hid ((((HB.out.alloc hwz _).alloc (by simp; omega) _).trans (hb5.mono (by simp; omega))).alloc (by omega) _ |>.trans (hb6.mono (by simp; omega)))
  clear hb5 hb6
  go_wp2_with fail
  go_ret
  exact ⟨rfl, HF.out⟩
end Go.Proofs.Ytafodaoehnggfaa.M
