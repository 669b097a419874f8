/- The tables of package sum and of the library's trailing noughts, as the statements' rows lay them. -/
import Derived.Test.YtdngfbljcmbniaaDoorCN6
import Derived.Test.YtdngfbljcmbniaaDoorCN10
import Derived.Test.YtdngfbljcmbniaaDoorCards
import Derived.Test.YtdngfbljcmbniaaDoorTie
import Derived.ProofKit
import Derived.Deep.DeepHandedRow
import Derived.Lib.LaidTab
import Derived.LaidSub
namespace Go.Proofs.YtdngfbljcmbniaaDoor.M
open Go.RowKit Go.ChangeShapes Go.WideShapes Go.ChangeAt

theorem gTab : Tryd.prog.globalNamed "echelon/sum.nibbles" = some 0 := by kernel_rfl
theorem gTabType : (Tryd.prog.globals[0]?).map (·.type) = some 90 := by kernel_rfl
theorem cellsTab : Tryd.prog.cellsOf 90 = 16 := by kernel_rfl
theorem cellsU32 : Tryd.prog.cellsOf 33 = 1 := by kernel_rfl
theorem gTz : Tryd.prog.globalNamed "math/bits.deBruijn64tab" = some 1 := by kernel_rfl
theorem gTzType : (Tryd.prog.globals[1]?).map (·.type) = some 80 := by kernel_rfl
theorem cellsTz : Tryd.prog.cellsOf 80 = 64 := by kernel_rfl
theorem cellsU8 : Tryd.prog.cellsOf 5 = 1 := by kernel_rfl

/-- The two that the rows list. -/
abbrev listed2 : List (String × DataW Unit) := [("echelon/sum.nibbles", Rows.laid_echelon_sum_nibbles), ("math/bits.deBruijn64tab", Rows.laid_math_bits_deBruijn64tab)]

theorem tabTable {W : World} (h : laidMetH Tryd.prog listed2 W) : Lib.TabIs Tryd.prog W "echelon/sum.nibbles" .u32 [0, 274646895, 549293790, 820201905, 1098587580, 1361435347, 1640403810, 1905808397, 2197175160, 2460548119, 2722870694, 2987750089, 3280807620, 3553878443, 3811616794, 4084100981] :=
  Lib.tabIs_of_head (rest := []) gTab gTabType Tryd.underlying90 Tryd.underlying33 cellsU32 cellsTab (h.filter fun p => p.1 == "echelon/sum.nibbles")

abbrev tzZ : List Int := [0, 1, 56, 2, 57, 49, 28, 3, 61, 58, 42, 50, 38, 29, 17, 4, 62, 47, 59, 36, 45, 43, 51, 22, 53, 39, 33, 30, 24, 18, 12, 5, 63, 55, 48, 27, 60, 41, 37, 16, 46, 35, 44, 21, 52, 32, 23, 11, 54, 26, 40, 15, 34, 20, 31, 10, 25, 14, 19, 9, 13, 8, 7, 6]

theorem tzTable {W : World} (h : laidMetH Tryd.prog listed2 W) : Lib.TabIs Tryd.prog W "math/bits.deBruijn64tab" .u8 tzZ :=
  Lib.tabIs_of_head (rest := []) gTz gTzType Tryd.underlying80 Tryd.underlying5 cellsU8 cellsTz (h.filter fun p => p.1 == "math/bits.deBruijn64tab")

theorem tzZ_at : ∀ k, k < 64 → tzZ.getD k 0 = ((Lib.deBruijn64tab.getD k 0 : Nat) : Int) := by decide +kernel

theorem tz_of {W : World} (h : laidMetH Tryd.prog listed2 W) : Tz W := by
  have hc : ∀ k, k < 64 → W.cell? ⟨1, k, none⟩ = some (.int .u8 ((Lib.deBruijn64tab.getD k 0 : Nat) : Int)) := fun k hk => by
    have := (tzTable h).cell gTz k hk
    rw [this]
    have h2 := tzZ_at k hk
    simpa using h2
  refine ⟨?_, hc⟩
  have h0 := hc 0 (by omega)
  exact (lt_of_cell h0).1

theorem tab_of {W : World} (h : laidMetH Tryd.prog listed2 W) : Tab W := by
  have hc : ∀ k, k < 16 → W.cell? ⟨0, k, none⟩ = some (.int .u32 (nibT.getD k 0 : Nat)) := fun k hk => by
    have := (tabTable h).cell gTab k hk
    rw [this]
    rcases (show k = 0 ∨ k = 1 ∨ k = 2 ∨ k = 3 ∨ k = 4 ∨ k = 5 ∨ k = 6 ∨ k = 7 ∨ k = 8 ∨ k = 9 ∨ k = 10 ∨ k = 11 ∨ k = 12 ∨ k = 13 ∨ k = 14 ∨ k = 15 by omega) with h | h | h | h | h | h | h | h | h | h | h | h | h | h | h | h
    all_goals (subst h; rfl)
  refine ⟨?_, hc⟩
  have h0 := hc 0 (by omega)
  rcases Nat.lt_or_ge 0 W.heap.size with h1 | h1
  · exact h1
  · unfold World.cell? at h0
    simp [Array.getElem?_eq_none h1] at h0

/-- The cells that a listed table reads as. -/
def litsOf : DataW Unit → Array Value
  | .agg l => (l.map fun x => match x with | .lit (.int k z) => .int k z | _ => undef).toArray
  | _ => #[]

def withCells (cs : Array Value) : Obj → Obj
  | .cells _ t frozen => .cells cs t frozen
  | o => o

/-- A world for the witness: the settled one, the tables holding what their initialisers lay. -/
noncomputable def laidWorld (os : Os) : World :=
  { World.holding Tryd.prog os ⟨#[], #[], []⟩ with heap := (((World.holding Tryd.prog os ⟨#[], #[], []⟩).heap.modify 0 (withCells (litsOf Rows.laid_echelon_sum_nibbles))).modify 1 (withCells (litsOf Rows.laid_math_bits_deBruijn64tab))) }
end Go.Proofs.YtdngfbljcmbniaaDoor.M
