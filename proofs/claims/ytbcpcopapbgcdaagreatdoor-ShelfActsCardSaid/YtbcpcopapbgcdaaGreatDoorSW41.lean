/- The document's examples, as law 1's statements begin with them. The document's Right, and the law MouldShapes. -/
import Derived.Test.YtbcpcopapbgcdaaGreatDoorSW8
import Derived.Test.YtbcpcopapbgcdaaGreatDoorSW40
/- Part: Awake1. -/
namespace Go.Proofs.YtbcpcopapbgcdaaGreatDoor.M
open Go.RowKit

theorem ex1 : putAll [110] [.mk 258 [] []] = .ok [2, 1, 2] := by kernel_rfl
theorem ex2 : putAll [91, 110, 98, 93] [.mk 0 [] [.mk 7 [] [], .mk 0 [] []]] = .ok [1, 7, 0] := by kernel_rfl
theorem ex3 : takeAt [110] [2, 0, 1] = .error 13 := by kernel_rfl
theorem ex4 : takeAt [42, 110] [1, 2, 1, 1, 0] = .ok (.mk 0 [] [.mk 1 [] [], .mk 0 [] []]) := by kernel_rfl
theorem ex5 : (shape [91, 93]).isSome = true := by kernel_rfl
theorem ex6 : (shape [42]).isSome = false := by kernel_rfl

theorem RepT.one {w : World} {s : ByteArray} {t : TypeId} {g : Nat} (hg : g = w.heap.size) (hs : s.size ≤ 9223372036854775807) :
    RepT (w.alloc (.cells #[.string s] t)) [s] (.slice (some ⟨g, 0, none⟩) 1 1) := by
  subst hg
  refine ⟨_, 1, rfl, by simp, fun i hi => ?_⟩
  obtain rfl : i = 0 := by simpa using hi
  exact ⟨w.heap.size, 0, rfl, cell_of_row _ w.heap.size 0 _ t _ (heap_alloc_new w (.cells #[.string s] t)), hs⟩

end Go.Proofs.YtbcpcopapbgcdaaGreatDoor.M

/- Part: RefRight. -/
namespace Go.Proofs.YtbcpcopapbgcdaaGreatDoor.M
open Go.RowKit

theorem shape_len {t : List UInt8} {s : Sh} (h : shape t = some s) : 0 < t.length ∧ t.length ≤ 64 ∧ pShape 9 t = some (s, []) := by
  unfold shape at h
  split at h
  · cases h
  · split at h
    · rename_i s' hq
      cases h
      have := pShape_less _ _ _ _ hq
      simp at this
      exact ⟨by omega, by omega, hq⟩
    · cases h

theorem RepT.nil (w : World) : RepT w [] (.slice none 0 0) := ⟨none, 0, rfl, by simp, fun i hi => by simp at hi⟩

theorem RepT.two {w : World} {s r : ByteArray} {t : TypeId} {g : Nat} (hg : g = w.heap.size) (hs : s.size ≤ 9223372036854775807) (hr : r.size ≤ 9223372036854775807) :
    RepT (w.alloc (.cells #[.string s, .string r] t)) [s, r] (.slice (some ⟨g, 0, none⟩) 2 2) := by
  subst hg
  refine ⟨_, 2, rfl, by simp, fun i hi => ?_⟩
  have h2 : i < 2 := by simpa using hi
  have hc := fun j => cell_of_row _ w.heap.size j _ t _ (heap_alloc_new w (.cells #[.string s, .string r] t))
  obtain rfl | rfl : i = 0 ∨ i = 1 := by omega
  · exact ⟨w.heap.size, 0, rfl, hc 0, hs⟩
  · exact ⟨w.heap.size, 0, rfl, hc 1, hr⟩

end Go.Proofs.YtbcpcopapbgcdaaGreatDoor.M
