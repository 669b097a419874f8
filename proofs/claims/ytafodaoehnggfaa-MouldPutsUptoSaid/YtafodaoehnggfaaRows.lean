/-
  NARROWER THAN 'FOR EVERY INPUT', by the rows' own cells (each row's printed sentence says how): MouldPuts: loops · MouldApart: loops.
  DERIVED. THE GIVEN ROWS OF THIS SEAT. 4 by the template 'for every input the law returns true; each argument reads behind the call as it read before'; 0 by the template 'total and deterministic' (their statements: YtafodaoehnggfaaTotals.lean).
  GIVEN WITH THE SEED: the statements are not yours to turn. If you find one false, say at which input.
  Laid BY PROGRAM, IN A SANDBOX (cutbox-rows.mjs): the forced cells as the released guide's own fill.sh prints them over the translation 59962894fcb5c3f3… (all of the seat's roots in one cut). By AI agents, Wed Nov 11 2026. No macro, syntax, notation, axiom, sorry.
-/
import Derived.Test.YtafodaoehnggfaaChecked
import GoSem.Claim
import GoSem.ClaimJoined
import GoSem.ClaimMapViews
import Derived.JoinedTies
import Derived.KernelRfl
namespace Go.Proofs.Ytafodaoehnggfaa
/- THE CELL 'sum', in the pinned program and in every row, IS THE sha256 OF THE DUMP (.gsa) THAT YtafodaoehnggfaaProg.lean LOADS. Nothing in Lean hashes anything: it is a label: what it is worth is what the hold of that sum in a sandbox is worth. -/
noncomputable def Try.pinned : Pinned := { name := "ytafodaoehnggfaa", sum := "59962894fcb5c3f3fb1fee1afa208ee0b988a6cc3bce0cfa2d632ff3f3a7e702", checked := Try.checked }
namespace Rows
def none {H : Type} : Left H := { results := [], args := [] }

/-- 'echelonlaw01.MouldShapes': WHATEVER THE INPUT: true; the input reads as it did. -/
def mouldShapesSpec : ChangeSpec := { name := "mouldShapes", fn := fun _ => fun
  | [d1, d2] => { results := [.lit (.bool true)], args := [d1, d2] }
  | _ => none }
def mouldShapesRow : OpenClaim := { program := "ytafodaoehnggfaa", sum := "59962894fcb5c3f3fb1fee1afa208ee0b988a6cc3bce0cfa2d632ff3f3a7e702", func := "echelon/echelonlaw01.MouldShapes", spec := "mouldShapes", unfollowed := true, recurses := true, apart := false }
def MouldShapesSaid : Prop := mouldShapesRow.holds Try.pinned (OpenSpec.ofChange mouldShapesSpec)

/-- ITS FALSE NEIGHBOUR: 'it returns false'. Refute it at one input. -/
def mouldShapesWrong : ChangeSpec := { name := "mouldShapes", fn := fun _ => fun
  | [d1, d2] => { results := [.lit (.bool false)], args := [d1, d2] }
  | _ => none }
def MouldShapesWrongFalsely : Prop := mouldShapesRow.holds Try.pinned (OpenSpec.ofChange mouldShapesWrong)

/-- 'echelonlaw01.MouldPuts': WHATEVER THE INPUT: true; the input reads as it did. -/
def mouldPutsSpec : ChangeSpec := { name := "mouldPuts", fn := fun _ => fun
  | [d1, d2] => { results := [.lit (.bool true)], args := [d1, d2] }
  | _ => none }
def mouldPutsRow : OpenClaim := { program := "ytafodaoehnggfaa", sum := "59962894fcb5c3f3fb1fee1afa208ee0b988a6cc3bce0cfa2d632ff3f3a7e702", func := "echelon/echelonlaw01.MouldPuts", spec := "mouldPuts", unfollowed := true, recurses := true, loops := true, apart := false }
def MouldPutsSaid : Prop := mouldPutsRow.holds Try.pinned (OpenSpec.ofChange mouldPutsSpec)

/-- ITS FALSE NEIGHBOUR: 'it returns false'. Refute it at one input. -/
def mouldPutsWrong : ChangeSpec := { name := "mouldPuts", fn := fun _ => fun
  | [d1, d2] => { results := [.lit (.bool false)], args := [d1, d2] }
  | _ => none }
def MouldPutsWrongFalsely : Prop := mouldPutsRow.holds Try.pinned (OpenSpec.ofChange mouldPutsWrong)

/-- 'echelonlaw01.MouldApart': WHATEVER THE INPUT: true; the input reads as it did. -/
def mouldApartSpec : ChangeSpec := { name := "mouldApart", fn := fun _ => fun
  | [d1, d2, d3] => { results := [.lit (.bool true)], args := [d1, d2, d3] }
  | _ => none }
def mouldApartRow : OpenClaim := { program := "ytafodaoehnggfaa", sum := "59962894fcb5c3f3fb1fee1afa208ee0b988a6cc3bce0cfa2d632ff3f3a7e702", func := "echelon/echelonlaw01.MouldApart", spec := "mouldApart", unfollowed := true, recurses := true, loops := true, apart := false }
def MouldApartSaid : Prop := mouldApartRow.holds Try.pinned (OpenSpec.ofChange mouldApartSpec)

/-- ITS FALSE NEIGHBOUR: 'it returns false'. Refute it at one input. -/
def mouldApartWrong : ChangeSpec := { name := "mouldApart", fn := fun _ => fun
  | [d1, d2, d3] => { results := [.lit (.bool false)], args := [d1, d2, d3] }
  | _ => none }
def MouldApartWrongFalsely : Prop := mouldApartRow.holds Try.pinned (OpenSpec.ofChange mouldApartWrong)

/-- 'echelonlaw01.MouldNumbers': WHATEVER THE INPUT: true; the input reads as it did. -/
def mouldNumbersSpec : ChangeSpec := { name := "mouldNumbers", fn := fun _ => fun
  | [d1, d2] => { results := [.lit (.bool true)], args := [d1, d2] }
  | _ => none }
def mouldNumbersRow : OpenClaim := { program := "ytafodaoehnggfaa", sum := "59962894fcb5c3f3fb1fee1afa208ee0b988a6cc3bce0cfa2d632ff3f3a7e702", func := "echelon/echelonlaw01.MouldNumbers", spec := "mouldNumbers", unfollowed := true, recurses := true, apart := false }
def MouldNumbersSaid : Prop := mouldNumbersRow.holds Try.pinned (OpenSpec.ofChange mouldNumbersSpec)

/-- ITS FALSE NEIGHBOUR: 'it returns false'. Refute it at one input. -/
def mouldNumbersWrong : ChangeSpec := { name := "mouldNumbers", fn := fun _ => fun
  | [d1, d2] => { results := [.lit (.bool false)], args := [d1, d2] }
  | _ => none }
def MouldNumbersWrongFalsely : Prop := mouldNumbersRow.holds Try.pinned (OpenSpec.ofChange mouldNumbersWrong)

/- THE SECOND FORM. 'bulk': how many values and letters a reading holds, each counted each time it is reached (what is shared counts as often as it is met; a slice's spare places count too). A statement '..UptoSaid' is the law's where the arguments, and the package variables that the reading takes, are together of bulk at most 1048576: NARROWER than '..Said'. Prove '..Said' where nothing that the law and all that it calls make is longer than what came in: it says more and counts as full. Else prove '..UptoSaid'. A law counts once. -/
mutual
def uptoBulk {H : Type} : DataW H → Nat
  | .lit (.string bytes) => bytes.length + 1
  | .lit _ => 1
  | .nil => 1
  | .ptr d => uptoBulk d + 1
  | .slice elems spare => uptoBulkAll elems + uptoBulkAll spare + 1
  | .agg parts => uptoBulkAll parts + 1
  | .iface _ d => uptoBulk d + 1
  | .map entries => uptoBulkEntries entries + 1
  | .held _ => 1
def uptoBulkAll {H : Type} : List (DataW H) → Nat
  | [] => 0
  | d :: r => uptoBulk d + uptoBulkAll r
def uptoBulkEntries {H : Type} : List (Lit × DataW H) → Nat
  | [] => 0
  | x :: r => uptoBulkEntry x + uptoBulkEntries r
def uptoBulkEntry {H : Type} : Lit × DataW H → Nat
  | (.string bytes, d) => bytes.length + uptoBulk d + 1
  | (_, d) => uptoBulk d + 1
 end
def uptoSmall : (H : Type) → List (DataW H) → Bool := fun _ ds => decide (uptoBulkAll ds ≤ 1048576)
def OpenSpec.upto (s : _root_.Go.ChangeSpec) : _root_.Go.OpenSpec := { _root_.Go.OpenSpec.ofChange s with cond := some uptoSmall }

/-- 'echelonlaw01.MouldShapes', WHERE WHAT IT READS IS OF BULK AT MOST 1048576: true; the input reads as it did. -/
def mouldShapesUptoRow : OpenClaim := { program := "ytafodaoehnggfaa", sum := "59962894fcb5c3f3fb1fee1afa208ee0b988a6cc3bce0cfa2d632ff3f3a7e702", func := "echelon/echelonlaw01.MouldShapes", spec := "mouldShapes", unfollowed := true, recurses := true, apart := false, narrowed := true }
def MouldShapesUptoSaid : Prop := mouldShapesUptoRow.holds Try.pinned (OpenSpec.upto mouldShapesSpec)

/-- 'echelonlaw01.MouldPuts', WHERE WHAT IT READS IS OF BULK AT MOST 1048576: true; the input reads as it did. -/
def mouldPutsUptoRow : OpenClaim := { program := "ytafodaoehnggfaa", sum := "59962894fcb5c3f3fb1fee1afa208ee0b988a6cc3bce0cfa2d632ff3f3a7e702", func := "echelon/echelonlaw01.MouldPuts", spec := "mouldPuts", unfollowed := true, recurses := true, loops := true, apart := false, narrowed := true }
def MouldPutsUptoSaid : Prop := mouldPutsUptoRow.holds Try.pinned (OpenSpec.upto mouldPutsSpec)

/-- 'echelonlaw01.MouldApart', WHERE WHAT IT READS IS OF BULK AT MOST 1048576: true; the input reads as it did. -/
def mouldApartUptoRow : OpenClaim := { program := "ytafodaoehnggfaa", sum := "59962894fcb5c3f3fb1fee1afa208ee0b988a6cc3bce0cfa2d632ff3f3a7e702", func := "echelon/echelonlaw01.MouldApart", spec := "mouldApart", unfollowed := true, recurses := true, loops := true, apart := false, narrowed := true }
def MouldApartUptoSaid : Prop := mouldApartUptoRow.holds Try.pinned (OpenSpec.upto mouldApartSpec)

/-- 'echelonlaw01.MouldNumbers', WHERE WHAT IT READS IS OF BULK AT MOST 1048576: true; the input reads as it did. -/
def mouldNumbersUptoRow : OpenClaim := { program := "ytafodaoehnggfaa", sum := "59962894fcb5c3f3fb1fee1afa208ee0b988a6cc3bce0cfa2d632ff3f3a7e702", func := "echelon/echelonlaw01.MouldNumbers", spec := "mouldNumbers", unfollowed := true, recurses := true, apart := false, narrowed := true }
def MouldNumbersUptoSaid : Prop := mouldNumbersUptoRow.holds Try.pinned (OpenSpec.upto mouldNumbersSpec)

end Rows
end Go.Proofs.Ytafodaoehnggfaa
