/-
  DERIVED. GIVEN WITH THE SEED: THE CARDS: each row of YtbcpcopapbgcdaaGreatDoorRows.lean that lists a variable, with what it lists TIED to the program's text (the seventh form; the later family's looks); each row that meets fmt, with fmt's text TOLD by the authors' own Lean function (tested against real Go, not proved from fmt's source: count such statements apart). THE CARD IS WHAT COUNTS. Prove the row's statement (the work); the ties are given (YtbcpcopapbgcdaaGreatDoorTie.lean); close each card by the builder's one call (the guide's Derived/Test/ToyasCard.lean, 'card_holds'). Laid BY PROGRAM, IN A SANDBOX (cutbox-door.mjs). By AI agents, Wed Nov 11 2026. No macro, syntax, notation, axiom, sorry.
-/
import Derived.Test.YtbcpcopapbgcdaaGreatDoorRows
import GoSem.ClaimSeven
namespace Go.Proofs.YtbcpcopapbgcdaaGreatDoor
namespace Rows

/-- THE TIED CARD OF 'echelonlaw05.SegmentDrops'. -/
def segmentDropsCard : Claim7 := { stood := { row := segmentDropsRow, standIns := [], harness := (true, "bbc56b960b75b58b061c9cbc4f0d61a46aa3ef55843511c6d958fc782c9c1bff"), looks := false }, kinds := [], alts := [], laidByText := true, laidKinds := [.data, .data, .data, .data], laidTests := true, laidLooks := .later }
def SegmentDropsCardSaid : Prop := Claim7.holds Tryz.pinned (.plain (OpenSpec.ofChange segmentDropsSpec)) segmentDropsCard

/-- THE TIED CARD OF 'echelonlaw05.SegmentSizes'. -/
def segmentSizesCard : Claim7 := { stood := { row := segmentSizesRow, standIns := [], harness := (true, "bbc56b960b75b58b061c9cbc4f0d61a46aa3ef55843511c6d958fc782c9c1bff"), looks := false }, kinds := [], alts := [], laidByText := true, laidKinds := [.data, .data, .data, .data], laidTests := true, laidLooks := .later }
def SegmentSizesCardSaid : Prop := Claim7.holds Tryz.pinned (.plain (OpenSpec.ofChange segmentSizesSpec)) segmentSizesCard

/-- THE TIED CARD OF 'echelonlaw06.ShelfParses'. -/
def shelfParsesCard : Claim7 := { stood := { row := shelfParsesRow, standIns := [], harness := (true, "bbc56b960b75b58b061c9cbc4f0d61a46aa3ef55843511c6d958fc782c9c1bff"), looks := false }, kinds := [], alts := [], laidByText := true, laidKinds := [.data, .data, .data, .data], laidTests := true, laidLooks := .later }
def ShelfParsesCardSaid : Prop := Claim7.holds Tryz.pinned (.plain (OpenSpec.ofChange shelfParsesSpec)) shelfParsesCard

/-- THE TIED CARD OF 'echelonlaw06.ShelfActs'. -/
def shelfActsCard : Claim7 := { stood := { row := shelfActsRow, standIns := [], harness := (true, "bbc56b960b75b58b061c9cbc4f0d61a46aa3ef55843511c6d958fc782c9c1bff"), looks := false }, kinds := [], alts := [], laidByText := true, laidKinds := [.data, .data, .data, .data], laidTests := true, laidLooks := .later }
def ShelfActsCardSaid : Prop := Claim7.holds Tryz.pinned (.plain (OpenSpec.ofChange shelfActsSpec)) shelfActsCard

/-- THE TIED CARD OF 'echelonlaw06.ShelfKeeps'. -/
def shelfKeepsCard : Claim7 := { stood := { row := shelfKeepsRow, standIns := [], harness := (true, "bbc56b960b75b58b061c9cbc4f0d61a46aa3ef55843511c6d958fc782c9c1bff"), looks := false }, kinds := [], alts := [], laidByText := true, laidKinds := [.data, .data, .data, .data], laidTests := true, laidLooks := .later }
def ShelfKeepsCardSaid : Prop := Claim7.holds Tryz.pinned (.plain (OpenSpec.ofChange shelfKeepsSpec)) shelfKeepsCard

/-- THE TIED CARD OF 'echelonlaw06.ShelfNewest'. -/
def shelfNewestCard : Claim7 := { stood := { row := shelfNewestRow, standIns := [], harness := (true, "bbc56b960b75b58b061c9cbc4f0d61a46aa3ef55843511c6d958fc782c9c1bff"), looks := false }, kinds := [], alts := [], laidByText := true, laidKinds := [.data, .data, .data, .data], laidTests := true, laidLooks := .later }
def ShelfNewestCardSaid : Prop := Claim7.holds Tryz.pinned (.plain (OpenSpec.ofChange shelfNewestSpec)) shelfNewestCard

/-- THE SECOND FORM's CARD OF 'echelonlaw05.SegmentDrops'. -/
def segmentDropsUptoCard : Claim7 := { stood := { row := segmentDropsUptoRow, standIns := [], harness := (true, "bbc56b960b75b58b061c9cbc4f0d61a46aa3ef55843511c6d958fc782c9c1bff"), looks := false }, kinds := [], alts := [], laidByText := true, laidKinds := [.data, .data, .data, .data], laidTests := true, laidLooks := .later }
def SegmentDropsUptoCardSaid : Prop := Claim7.holds Tryz.pinned (.plain (OpenSpec.upto segmentDropsSpec)) segmentDropsUptoCard

/-- THE SECOND FORM's CARD OF 'echelonlaw05.SegmentSizes'. -/
def segmentSizesUptoCard : Claim7 := { stood := { row := segmentSizesUptoRow, standIns := [], harness := (true, "bbc56b960b75b58b061c9cbc4f0d61a46aa3ef55843511c6d958fc782c9c1bff"), looks := false }, kinds := [], alts := [], laidByText := true, laidKinds := [.data, .data, .data, .data], laidTests := true, laidLooks := .later }
def SegmentSizesUptoCardSaid : Prop := Claim7.holds Tryz.pinned (.plain (OpenSpec.upto segmentSizesSpec)) segmentSizesUptoCard

/-- THE SECOND FORM's CARD OF 'echelonlaw06.ShelfParses'. -/
def shelfParsesUptoCard : Claim7 := { stood := { row := shelfParsesUptoRow, standIns := [], harness := (true, "bbc56b960b75b58b061c9cbc4f0d61a46aa3ef55843511c6d958fc782c9c1bff"), looks := false }, kinds := [], alts := [], laidByText := true, laidKinds := [.data, .data, .data, .data], laidTests := true, laidLooks := .later }
def ShelfParsesUptoCardSaid : Prop := Claim7.holds Tryz.pinned (.plain (OpenSpec.upto shelfParsesSpec)) shelfParsesUptoCard

/-- THE SECOND FORM's CARD OF 'echelonlaw06.ShelfActs'. -/
def shelfActsUptoCard : Claim7 := { stood := { row := shelfActsUptoRow, standIns := [], harness := (true, "bbc56b960b75b58b061c9cbc4f0d61a46aa3ef55843511c6d958fc782c9c1bff"), looks := false }, kinds := [], alts := [], laidByText := true, laidKinds := [.data, .data, .data, .data], laidTests := true, laidLooks := .later }
def ShelfActsUptoCardSaid : Prop := Claim7.holds Tryz.pinned (.plain (OpenSpec.upto shelfActsSpec)) shelfActsUptoCard

/-- THE SECOND FORM's CARD OF 'echelonlaw06.ShelfKeeps'. -/
def shelfKeepsUptoCard : Claim7 := { stood := { row := shelfKeepsUptoRow, standIns := [], harness := (true, "bbc56b960b75b58b061c9cbc4f0d61a46aa3ef55843511c6d958fc782c9c1bff"), looks := false }, kinds := [], alts := [], laidByText := true, laidKinds := [.data, .data, .data, .data], laidTests := true, laidLooks := .later }
def ShelfKeepsUptoCardSaid : Prop := Claim7.holds Tryz.pinned (.plain (OpenSpec.upto shelfKeepsSpec)) shelfKeepsUptoCard

/-- THE SECOND FORM's CARD OF 'echelonlaw06.ShelfNewest'. -/
def shelfNewestUptoCard : Claim7 := { stood := { row := shelfNewestUptoRow, standIns := [], harness := (true, "bbc56b960b75b58b061c9cbc4f0d61a46aa3ef55843511c6d958fc782c9c1bff"), looks := false }, kinds := [], alts := [], laidByText := true, laidKinds := [.data, .data, .data, .data], laidTests := true, laidLooks := .later }
def ShelfNewestUptoCardSaid : Prop := Claim7.holds Tryz.pinned (.plain (OpenSpec.upto shelfNewestSpec)) shelfNewestUptoCard
end Rows
end Go.Proofs.YtbcpcopapbgcdaaGreatDoor
