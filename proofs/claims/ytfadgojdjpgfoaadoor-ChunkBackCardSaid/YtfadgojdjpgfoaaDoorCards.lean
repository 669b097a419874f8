/-
  DERIVED. GIVEN WITH THE SEED: THE CARDS: each row of YtfadgojdjpgfoaaDoorRows.lean that lists a variable, with what it lists TIED to the program's text (the seventh form; the later family's looks); each row that meets fmt, with fmt's text TOLD by the authors' own Lean function (tested against real Go, not proved from fmt's source: count such statements apart). THE CARD IS WHAT COUNTS. Prove the row's statement (the work); the ties are given (YtfadgojdjpgfoaaDoorTie.lean); close each card by the builder's one call (the guide's Derived/Test/ToyasCard.lean, 'card_holds'). Laid BY PROGRAM, IN A SANDBOX (cutbox-door.mjs). By AI agents, Wed Nov 11 2026. No macro, syntax, notation, axiom, sorry.
-/
import Derived.Test.YtfadgojdjpgfoaaDoorRows
import GoSem.ClaimSeven
namespace Go.Proofs.YtfadgojdjpgfoaaDoor
namespace Rows

/-- THE TIED CARD OF 'echelonlaw07.ChunkCuts'. -/
def chunkCutsCard : Claim7 := { stood := { row := chunkCutsRow, standIns := [], harness := (true, "4890fbf018babd666c95adb830c799d9db1ef9ffbb69514c9ce54bf87132fcef"), looks := false }, kinds := [], alts := [], laidByText := true, laidKinds := [.data, .data], laidTests := true, laidLooks := .later }
def ChunkCutsCardSaid : Prop := Claim7.holds Tryd.pinned (.plain (OpenSpec.ofChange chunkCutsSpec)) chunkCutsCard

/-- THE TIED CARD OF 'echelonlaw07.ChunkTakes'. -/
def chunkTakesCard : Claim7 := { stood := { row := chunkTakesRow, standIns := [], harness := (true, "4890fbf018babd666c95adb830c799d9db1ef9ffbb69514c9ce54bf87132fcef"), looks := false }, kinds := [], alts := [], laidByText := true, laidKinds := [.data, .data], laidTests := true, laidLooks := .later }
def ChunkTakesCardSaid : Prop := Claim7.holds Tryd.pinned (.plain (OpenSpec.ofChange chunkTakesSpec)) chunkTakesCard

/-- THE TIED CARD OF 'echelonlaw07.ChunkBack'. -/
def chunkBackCard : Claim7 := { stood := { row := chunkBackRow, standIns := [], harness := (true, "4890fbf018babd666c95adb830c799d9db1ef9ffbb69514c9ce54bf87132fcef"), looks := false }, kinds := [], alts := [], laidByText := true, laidKinds := [.data, .data], laidTests := true, laidLooks := .later }
def ChunkBackCardSaid : Prop := Claim7.holds Tryd.pinned (.plain (OpenSpec.ofChange chunkBackSpec)) chunkBackCard

/-- THE TIED CARD OF 'echelonlaw07.ChunkNewer'. -/
def chunkNewerCard : Claim7 := { stood := { row := chunkNewerRow, standIns := [], harness := (true, "4890fbf018babd666c95adb830c799d9db1ef9ffbb69514c9ce54bf87132fcef"), looks := false }, kinds := [], alts := [], laidByText := true, laidKinds := [.data, .data], laidTests := true, laidLooks := .later }
def ChunkNewerCardSaid : Prop := Claim7.holds Tryd.pinned (.plain (OpenSpec.ofChange chunkNewerSpec)) chunkNewerCard

/-- THE SECOND FORM's CARD OF 'echelonlaw07.ChunkCuts'. -/
def chunkCutsUptoCard : Claim7 := { stood := { row := chunkCutsUptoRow, standIns := [], harness := (true, "4890fbf018babd666c95adb830c799d9db1ef9ffbb69514c9ce54bf87132fcef"), looks := false }, kinds := [], alts := [], laidByText := true, laidKinds := [.data, .data], laidTests := true, laidLooks := .later }
def ChunkCutsUptoCardSaid : Prop := Claim7.holds Tryd.pinned (.plain (OpenSpec.upto chunkCutsSpec)) chunkCutsUptoCard

/-- THE SECOND FORM's CARD OF 'echelonlaw07.ChunkTakes'. -/
def chunkTakesUptoCard : Claim7 := { stood := { row := chunkTakesUptoRow, standIns := [], harness := (true, "4890fbf018babd666c95adb830c799d9db1ef9ffbb69514c9ce54bf87132fcef"), looks := false }, kinds := [], alts := [], laidByText := true, laidKinds := [.data, .data], laidTests := true, laidLooks := .later }
def ChunkTakesUptoCardSaid : Prop := Claim7.holds Tryd.pinned (.plain (OpenSpec.upto chunkTakesSpec)) chunkTakesUptoCard

/-- THE SECOND FORM's CARD OF 'echelonlaw07.ChunkBack'. -/
def chunkBackUptoCard : Claim7 := { stood := { row := chunkBackUptoRow, standIns := [], harness := (true, "4890fbf018babd666c95adb830c799d9db1ef9ffbb69514c9ce54bf87132fcef"), looks := false }, kinds := [], alts := [], laidByText := true, laidKinds := [.data, .data], laidTests := true, laidLooks := .later }
def ChunkBackUptoCardSaid : Prop := Claim7.holds Tryd.pinned (.plain (OpenSpec.upto chunkBackSpec)) chunkBackUptoCard

/-- THE SECOND FORM's CARD OF 'echelonlaw07.ChunkNewer'. -/
def chunkNewerUptoCard : Claim7 := { stood := { row := chunkNewerUptoRow, standIns := [], harness := (true, "4890fbf018babd666c95adb830c799d9db1ef9ffbb69514c9ce54bf87132fcef"), looks := false }, kinds := [], alts := [], laidByText := true, laidKinds := [.data, .data], laidTests := true, laidLooks := .later }
def ChunkNewerUptoCardSaid : Prop := Claim7.holds Tryd.pinned (.plain (OpenSpec.upto chunkNewerSpec)) chunkNewerUptoCard
end Rows
end Go.Proofs.YtfadgojdjpgfoaaDoor
