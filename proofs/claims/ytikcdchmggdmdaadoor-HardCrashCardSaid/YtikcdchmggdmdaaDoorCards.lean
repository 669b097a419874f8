/-
  DERIVED. GIVEN WITH THE SEED: THE CARDS: each row of YtikcdchmggdmdaaDoorRows.lean that lists a variable, with what it lists TIED to the program's text (the seventh form; the later family's looks); each row that meets fmt, with fmt's text TOLD by the authors' own Lean function (tested against real Go, not proved from fmt's source: count such statements apart). THE CARD IS WHAT COUNTS. Prove the row's statement (the work); the ties are given (YtikcdchmggdmdaaDoorTie.lean); close each card by the builder's one call (the guide's Derived/Test/ToyasCard.lean, 'card_holds'). Laid BY PROGRAM, IN A SANDBOX (cutbox-door.mjs). By AI agents, Wed Nov 11 2026. No macro, syntax, notation, axiom, sorry.
-/
import Derived.Test.YtikcdchmggdmdaaDoorRows
import GoSem.ClaimSeven
namespace Go.Proofs.YtikcdchmggdmdaaDoor
namespace Rows

/-- THE TIED CARD OF 'echelonlaw04.HardFollows'. -/
def hardFollowsCard : Claim7 := { stood := { row := hardFollowsRow, standIns := [], harness := (true, "11a66d25a6bfc1b4ee0b6a8bb56dabf2698f8a9622684d7d505596316b2a61df"), looks := false }, kinds := [], alts := [], laidByText := true, laidKinds := [.data], laidTests := true, laidLooks := .later }
def HardFollowsCardSaid : Prop := Claim7.holds Tryd.pinned (.plain (OpenSpec.ofChange hardFollowsSpec)) hardFollowsCard

/-- THE TIED CARD OF 'echelonlaw04.HardCrash'. -/
def hardCrashCard : Claim7 := { stood := { row := hardCrashRow, standIns := [], harness := (true, "11a66d25a6bfc1b4ee0b6a8bb56dabf2698f8a9622684d7d505596316b2a61df"), looks := false }, kinds := [], alts := [], laidByText := true, laidKinds := [.data], laidTests := true, laidLooks := .later }
def HardCrashCardSaid : Prop := Claim7.holds Tryd.pinned (.plain (OpenSpec.ofChange hardCrashSpec)) hardCrashCard

/-- THE TIED CARD OF 'echelonlaw04.HardOnce'. -/
def hardOnceCard : Claim7 := { stood := { row := hardOnceRow, standIns := [], harness := (true, "11a66d25a6bfc1b4ee0b6a8bb56dabf2698f8a9622684d7d505596316b2a61df"), looks := false }, kinds := [], alts := [], laidByText := true, laidKinds := [.data], laidTests := true, laidLooks := .later }
def HardOnceCardSaid : Prop := Claim7.holds Tryd.pinned (.plain (OpenSpec.ofChange hardOnceSpec)) hardOnceCard

/-- THE SECOND FORM's CARD OF 'echelonlaw04.HardFollows'. -/
def hardFollowsUptoCard : Claim7 := { stood := { row := hardFollowsUptoRow, standIns := [], harness := (true, "11a66d25a6bfc1b4ee0b6a8bb56dabf2698f8a9622684d7d505596316b2a61df"), looks := false }, kinds := [], alts := [], laidByText := true, laidKinds := [.data], laidTests := true, laidLooks := .later }
def HardFollowsUptoCardSaid : Prop := Claim7.holds Tryd.pinned (.plain (OpenSpec.upto hardFollowsSpec)) hardFollowsUptoCard

/-- THE SECOND FORM's CARD OF 'echelonlaw04.HardCrash'. -/
def hardCrashUptoCard : Claim7 := { stood := { row := hardCrashUptoRow, standIns := [], harness := (true, "11a66d25a6bfc1b4ee0b6a8bb56dabf2698f8a9622684d7d505596316b2a61df"), looks := false }, kinds := [], alts := [], laidByText := true, laidKinds := [.data], laidTests := true, laidLooks := .later }
def HardCrashUptoCardSaid : Prop := Claim7.holds Tryd.pinned (.plain (OpenSpec.upto hardCrashSpec)) hardCrashUptoCard

/-- THE SECOND FORM's CARD OF 'echelonlaw04.HardOnce'. -/
def hardOnceUptoCard : Claim7 := { stood := { row := hardOnceUptoRow, standIns := [], harness := (true, "11a66d25a6bfc1b4ee0b6a8bb56dabf2698f8a9622684d7d505596316b2a61df"), looks := false }, kinds := [], alts := [], laidByText := true, laidKinds := [.data], laidTests := true, laidLooks := .later }
def HardOnceUptoCardSaid : Prop := Claim7.holds Tryd.pinned (.plain (OpenSpec.upto hardOnceSpec)) hardOnceUptoCard
end Rows
end Go.Proofs.YtikcdchmggdmdaaDoor
