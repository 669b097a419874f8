/-
  DERIVED. GIVEN WITH THE SEED: THE CARDS: each row of YtgakcaobalfpjaaGreatDoorRows.lean that lists a variable, with what it lists TIED to the program's text (the seventh form; the later family's looks); each row that meets fmt, with fmt's text TOLD by the authors' own Lean function (tested against real Go, not proved from fmt's source: count such statements apart). THE CARD IS WHAT COUNTS. Prove the row's statement (the work); the ties are given (YtgakcaobalfpjaaGreatDoorTie.lean); close each card by the builder's one call (the guide's Derived/Test/ToyasCard.lean, 'card_holds'). Laid BY PROGRAM, IN A SANDBOX (cutbox-door.mjs). By AI agents, Wed Nov 11 2026. No macro, syntax, notation, axiom, sorry.
-/
import Derived.Test.YtgakcaobalfpjaaGreatDoorRows
import GoSem.ClaimSeven
namespace Go.Proofs.YtgakcaobalfpjaaGreatDoor
namespace Rows

/-- THE TIED CARD OF 'echelonlaw04.HardSaves'. -/
def hardSavesCard : Claim7 := { stood := { row := hardSavesRow, standIns := [], harness := (true, "b09e6e367e56bbf88de48499927cc7adf3124af9e8b40eac8ab6acd4c9bb85e7"), looks := false }, kinds := [], alts := [], laidByText := true, laidKinds := [.data], laidTests := true, laidLooks := .later }
def HardSavesCardSaid : Prop := Claim7.holds Tryz.pinned (.plain (OpenSpec.ofChange hardSavesSpec)) hardSavesCard

/-- THE TIED CARD OF 'echelonlaw05.SegmentDrops'. -/
def segmentDropsCard : Claim7 := { stood := { row := segmentDropsRow, standIns := [], harness := (true, "b09e6e367e56bbf88de48499927cc7adf3124af9e8b40eac8ab6acd4c9bb85e7"), looks := false }, kinds := [], alts := [], laidByText := true, laidKinds := [.data, .data, .data, .data], laidTests := true, laidLooks := .later }
def SegmentDropsCardSaid : Prop := Claim7.holds Tryz.pinned (.plain (OpenSpec.ofChange segmentDropsSpec)) segmentDropsCard

/-- THE TIED CARD OF 'echelonlaw05.SegmentSizes'. -/
def segmentSizesCard : Claim7 := { stood := { row := segmentSizesRow, standIns := [], harness := (true, "b09e6e367e56bbf88de48499927cc7adf3124af9e8b40eac8ab6acd4c9bb85e7"), looks := false }, kinds := [], alts := [], laidByText := true, laidKinds := [.data, .data, .data, .data], laidTests := true, laidLooks := .later }
def SegmentSizesCardSaid : Prop := Claim7.holds Tryz.pinned (.plain (OpenSpec.ofChange segmentSizesSpec)) segmentSizesCard

/-- THE SECOND FORM's CARD OF 'echelonlaw04.HardSaves'. -/
def hardSavesUptoCard : Claim7 := { stood := { row := hardSavesUptoRow, standIns := [], harness := (true, "b09e6e367e56bbf88de48499927cc7adf3124af9e8b40eac8ab6acd4c9bb85e7"), looks := false }, kinds := [], alts := [], laidByText := true, laidKinds := [.data], laidTests := true, laidLooks := .later }
def HardSavesUptoCardSaid : Prop := Claim7.holds Tryz.pinned (.plain (OpenSpec.upto hardSavesSpec)) hardSavesUptoCard

/-- THE SECOND FORM's CARD OF 'echelonlaw05.SegmentDrops'. -/
def segmentDropsUptoCard : Claim7 := { stood := { row := segmentDropsUptoRow, standIns := [], harness := (true, "b09e6e367e56bbf88de48499927cc7adf3124af9e8b40eac8ab6acd4c9bb85e7"), looks := false }, kinds := [], alts := [], laidByText := true, laidKinds := [.data, .data, .data, .data], laidTests := true, laidLooks := .later }
def SegmentDropsUptoCardSaid : Prop := Claim7.holds Tryz.pinned (.plain (OpenSpec.upto segmentDropsSpec)) segmentDropsUptoCard

/-- THE SECOND FORM's CARD OF 'echelonlaw05.SegmentSizes'. -/
def segmentSizesUptoCard : Claim7 := { stood := { row := segmentSizesUptoRow, standIns := [], harness := (true, "b09e6e367e56bbf88de48499927cc7adf3124af9e8b40eac8ab6acd4c9bb85e7"), looks := false }, kinds := [], alts := [], laidByText := true, laidKinds := [.data, .data, .data, .data], laidTests := true, laidLooks := .later }
def SegmentSizesUptoCardSaid : Prop := Claim7.holds Tryz.pinned (.plain (OpenSpec.upto segmentSizesSpec)) segmentSizesUptoCard
end Rows
end Go.Proofs.YtgakcaobalfpjaaGreatDoor
