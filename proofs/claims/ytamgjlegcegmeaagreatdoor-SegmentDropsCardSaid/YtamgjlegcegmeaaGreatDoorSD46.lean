/- The tables of package sum and of the library's numbers, as the statements' rows lay them: four of them. -/
import Derived.Test.YtamgjlegcegmeaaGreatDoorSD26
import Derived.Test.YtamgjlegcegmeaaGreatDoorSD30
import Derived.Test.YtamgjlegcegmeaaGreatDoorCards
import Derived.Test.YtamgjlegcegmeaaGreatDoorTie
import Derived.ProofKit
import Derived.Deep.DeepHandedRow
import Derived.Lib.LaidTab
import Derived.LaidSub
namespace Go.Proofs.YtamgjlegcegmeaaGreatDoor.M
open Go.RowKit Go.ChangeShapes Go.WideShapes Go.ChangeAt

theorem gTab : Tryz.prog.globalNamed "echelon/sum.nibbles" = some 0 := by kernel_rfl
theorem gTabType : (Tryz.prog.globals[0]?).map (·.type) = some 177 := by kernel_rfl
theorem cellsTab : Tryz.prog.cellsOf 177 = 16 := by kernel_rfl
theorem cellsU32 : Tryz.prog.cellsOf 97 = 1 := by kernel_rfl
theorem gPow : Tryz.prog.globalNamed "internal/strconv.uint64pow10" = some 1 := by kernel_rfl
theorem gPowType : (Tryz.prog.globals[1]?).map (·.type) = some 198 := by kernel_rfl
theorem cellsPow : Tryz.prog.cellsOf 198 = 20 := by kernel_rfl
theorem cellsU64 : Tryz.prog.cellsOf 92 = 1 := by kernel_rfl

/-- The four that the rows list. -/
abbrev listed4 : List (String × DataW Unit) := [("echelon/sum.nibbles", Rows.laid_echelon_sum_nibbles), ("math/bits.deBruijn32tab", Rows.laid_math_bits_deBruijn32tab), ("math/bits.deBruijn64tab", Rows.laid_math_bits_deBruijn64tab), ("internal/strconv.uint64pow10", Rows.laid_internal_strconv_uint64pow10)]

theorem tabTable {W : World} (h : laidMetH Tryz.prog listed4 W) : Lib.TabIs Tryz.prog W "echelon/sum.nibbles" .u32 [0, 274646895, 549293790, 820201905, 1098587580, 1361435347, 1640403810, 1905808397, 2197175160, 2460548119, 2722870694, 2987750089, 3280807620, 3553878443, 3811616794, 4084100981] :=
  Lib.tabIs_of_head (rest := []) gTab gTabType Tryz.underlying177 Tryz.underlying97 cellsU32 cellsTab (h.filter fun p => p.1 == "echelon/sum.nibbles")

theorem pow_of {W : World} (h : laidMetH Tryz.prog listed4 W) : Pow10 W :=
  Lib.tabIs_of_head (rest := []) gPow gPowType Tryz.underlying198 Tryz.underlying92 cellsU64 cellsPow (h.filter fun p => p.1 == "internal/strconv.uint64pow10")

theorem tab_of {W : World} (h : laidMetH Tryz.prog listed4 W) : Tab W := by
  have hc : ∀ k, k < 16 → W.cell? ⟨0, k, none⟩ = some (.int .u32 (nibT.getD k 0 : Nat)) := fun k hk => by
    have := (tabTable h).cell gTab k hk
    rw [this]
    rcases (show k = 0 ∨ k = 1 ∨ k = 2 ∨ k = 3 ∨ k = 4 ∨ k = 5 ∨ k = 6 ∨ k = 7 ∨ k = 8 ∨ k = 9 ∨ k = 10 ∨ k = 11 ∨ k = 12 ∨ k = 13 ∨ k = 14 ∨ k = 15 by omega) with h | h | h | h | h | h | h | h | h | h | h | h | h | h | h | h
    all_goals (subst h; rfl)
  refine ⟨?_, hc⟩
  have h0 := hc 0 (by omega)
  rcases Nat.lt_or_ge 0 W.heap.size with h1 | h1
  · exact h1
  · unfold World.cell? at h0
    simp [Array.getElem?_eq_none h1] at h0

/-- The cells that a listed table reads as. -/
def litsOf : DataW Unit → Array Value
  | .agg l => (l.map fun x => match x with | .lit (.int k z) => .int k z | _ => undef).toArray
  | _ => #[]

def withCells (cs : Array Value) : Obj → Obj
  | .cells _ t frozen => .cells cs t frozen
  | o => o

/-- A world for the witness: the settled one, the tables holding what their initialisers lay. -/
noncomputable def laidWorld (os : Os) : World :=
  { World.holding Tryz.prog os ⟨#[], #[], []⟩ with heap := ((((World.holding Tryz.prog os ⟨#[], #[], []⟩).heap.modify 0 (withCells (litsOf Rows.laid_echelon_sum_nibbles))).modify 1 (withCells (litsOf Rows.laid_internal_strconv_uint64pow10))).modify 3 (withCells (litsOf Rows.laid_math_bits_deBruijn32tab))).modify 4 (withCells (litsOf Rows.laid_math_bits_deBruijn64tab)) }
end Go.Proofs.YtamgjlegcegmeaaGreatDoor.M
