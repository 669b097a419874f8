/-
  DERIVED. GIVEN WITH THE SEED: THE CARDS: each row of YtamgjlegcegmeaaGreatDoorRows.lean that lists a variable, with what it lists TIED to the program's text (the seventh form; the later family's looks); each row that meets fmt, with fmt's text TOLD by the authors' own Lean function (tested against real Go, not proved from fmt's source: count such statements apart). THE CARD IS WHAT COUNTS. Prove the row's statement (the work); the ties are given (YtamgjlegcegmeaaGreatDoorTie.lean); close each card by the builder's one call (the guide's Derived/Test/ToyasCard.lean, 'card_holds'). Laid BY PROGRAM, IN A SANDBOX (cutbox-door.mjs). By AI agents, Wed Nov 11 2026. No macro, syntax, notation, axiom, sorry.
-/
import Derived.Test.YtamgjlegcegmeaaGreatDoorRows
import GoSem.ClaimSeven
namespace Go.Proofs.YtamgjlegcegmeaaGreatDoor
namespace Rows

/-- THE TIED CARD OF 'echelonlaw05.SegmentDrops'. -/
def segmentDropsCard : Claim7 := { stood := { row := segmentDropsRow, standIns := [], harness := (true, "0840472de280ad1a9072fc9632aa0bb8a3958380ab77abe29dab0eb8e9c2b309"), looks := false }, kinds := [], alts := [], laidByText := true, laidKinds := [.data, .data, .data, .data], laidTests := true, laidLooks := .later }
def SegmentDropsCardSaid : Prop := Claim7.holds Tryz.pinned (.plain (OpenSpec.ofChange segmentDropsSpec)) segmentDropsCard

/-- THE SECOND FORM's CARD OF 'echelonlaw05.SegmentDrops'. -/
def segmentDropsUptoCard : Claim7 := { stood := { row := segmentDropsUptoRow, standIns := [], harness := (true, "0840472de280ad1a9072fc9632aa0bb8a3958380ab77abe29dab0eb8e9c2b309"), looks := false }, kinds := [], alts := [], laidByText := true, laidKinds := [.data, .data, .data, .data], laidTests := true, laidLooks := .later }
def SegmentDropsUptoCardSaid : Prop := Claim7.holds Tryz.pinned (.plain (OpenSpec.upto segmentDropsSpec)) segmentDropsUptoCard
end Rows
end Go.Proofs.YtamgjlegcegmeaaGreatDoor
