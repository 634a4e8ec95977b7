/-
  DERIVED. GIVEN WITH THE SEED: THE CARDS: each row of YtghbgehmaejggaaDoorRows.lean that lists a variable, with what it lists TIED to the program's text (the seventh form; the later family's looks); each row that meets fmt, with fmt's text TOLD by the authors' own Lean function (tested against real Go, not proved from fmt's source: count such statements apart). THE CARD IS WHAT COUNTS. Prove the row's statement (the work); the ties are given (YtghbgehmaejggaaDoorTie.lean); close each card by the builder's one call (the guide's Derived/Test/ToyasCard.lean, 'card_holds'). Laid BY PROGRAM, IN A SANDBOX (cutbox-door.mjs). By AI agents, Wed Nov 11 2026. No macro, syntax, notation, axiom, sorry.
-/
import Derived.Test.YtghbgehmaejggaaDoorRows
import GoSem.ClaimSeven
namespace Go.Proofs.YtghbgehmaejggaaDoor
namespace Rows

/-- THE TIED CARD OF 'kotatsulaw07.GrooveReads'. -/
def grooveReadsCard : Claim7 := { stood := { row := grooveReadsRow, standIns := [], harness := (true, "c14efeb4d19085b51a19ea43ad663a0092614e511f9c2b5307541b89735b56c3"), looks := false }, kinds := [], alts := [], laidByText := true, laidKinds := [.data, .pinned], laidTests := true, laidLooks := .later }
def GrooveReadsCardSaid : Prop := Claim7.holds Tryd.pinned (.plain (OpenSpec.ofChange grooveReadsSpec)) grooveReadsCard

/-- THE SECOND FORM's CARD OF 'kotatsulaw07.GrooveReads'. -/
def grooveReadsUptoCard : Claim7 := { stood := { row := grooveReadsUptoRow, standIns := [], harness := (true, "c14efeb4d19085b51a19ea43ad663a0092614e511f9c2b5307541b89735b56c3"), looks := false }, kinds := [], alts := [], laidByText := true, laidKinds := [.data, .pinned], laidTests := true, laidLooks := .later }
def GrooveReadsUptoCardSaid : Prop := Claim7.holds Tryd.pinned (.plain (OpenSpec.upto grooveReadsSpec)) grooveReadsUptoCard
end Rows
end Go.Proofs.YtghbgehmaejggaaDoor
