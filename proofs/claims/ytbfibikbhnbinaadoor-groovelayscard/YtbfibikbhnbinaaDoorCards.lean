/-
  DERIVED. GIVEN WITH THE SEED: THE CARDS: each row of YtbfibikbhnbinaaDoorRows.lean that lists a variable, with what it lists TIED to the program's text (the seventh form; the later family's looks); each row that meets fmt, with fmt's text TOLD by the authors' own Lean function (tested against real Go, not proved from fmt's source: count such statements apart). THE CARD IS WHAT COUNTS. Prove the row's statement (the work); the ties are given (YtbfibikbhnbinaaDoorTie.lean); close each card by the builder's one call (the guide's Derived/Test/ToyasCard.lean, 'card_holds'). Laid BY PROGRAM, IN A SANDBOX (cutbox-door.mjs). By AI agents, Wed Nov 11 2026. No macro, syntax, notation, axiom, sorry.
-/
import Derived.Test.YtbfibikbhnbinaaDoorRows
import GoSem.ClaimSeven
namespace Go.Proofs.YtbfibikbhnbinaaDoor
namespace Rows

/-- THE TIED CARD OF 'kotatsulaw07.GrooveLays'. -/
def grooveLaysCard : Claim7 := { stood := { row := grooveLaysRow, standIns := [], harness := (true, "1e0e72e89683cd72641e5667086f2051606101859ed6d7cf1a2007ece796c5b4"), looks := false }, kinds := [], alts := [], laidByText := true, laidKinds := [.data, .pinned], laidTests := true, laidLooks := .later }
def GrooveLaysCardSaid : Prop := Claim7.holds Tryd.pinned (.plain (OpenSpec.ofChange grooveLaysSpec)) grooveLaysCard

/-- THE TIED CARD OF 'kotatsulaw07.GrooveReads'. -/
def grooveReadsCard : Claim7 := { stood := { row := grooveReadsRow, standIns := [], harness := (true, "1e0e72e89683cd72641e5667086f2051606101859ed6d7cf1a2007ece796c5b4"), looks := false }, kinds := [], alts := [], laidByText := true, laidKinds := [.data, .pinned], laidTests := true, laidLooks := .later }
def GrooveReadsCardSaid : Prop := Claim7.holds Tryd.pinned (.plain (OpenSpec.ofChange grooveReadsSpec)) grooveReadsCard

/-- THE TIED CARD OF 'kotatsulaw07.GrooveFits'. -/
def grooveFitsCard : Claim7 := { stood := { row := grooveFitsRow, standIns := [], harness := (true, "1e0e72e89683cd72641e5667086f2051606101859ed6d7cf1a2007ece796c5b4"), looks := false }, kinds := [], alts := [], laidByText := true, laidKinds := [.data, .pinned], laidTests := true, laidLooks := .later }
def GrooveFitsCardSaid : Prop := Claim7.holds Tryd.pinned (.plain (OpenSpec.ofChange grooveFitsSpec)) grooveFitsCard

/-- THE SECOND FORM's CARD OF 'kotatsulaw07.GrooveLays'. -/
def grooveLaysUptoCard : Claim7 := { stood := { row := grooveLaysUptoRow, standIns := [], harness := (true, "1e0e72e89683cd72641e5667086f2051606101859ed6d7cf1a2007ece796c5b4"), looks := false }, kinds := [], alts := [], laidByText := true, laidKinds := [.data, .pinned], laidTests := true, laidLooks := .later }
def GrooveLaysUptoCardSaid : Prop := Claim7.holds Tryd.pinned (.plain (OpenSpec.upto grooveLaysSpec)) grooveLaysUptoCard

/-- THE SECOND FORM's CARD OF 'kotatsulaw07.GrooveReads'. -/
def grooveReadsUptoCard : Claim7 := { stood := { row := grooveReadsUptoRow, standIns := [], harness := (true, "1e0e72e89683cd72641e5667086f2051606101859ed6d7cf1a2007ece796c5b4"), looks := false }, kinds := [], alts := [], laidByText := true, laidKinds := [.data, .pinned], laidTests := true, laidLooks := .later }
def GrooveReadsUptoCardSaid : Prop := Claim7.holds Tryd.pinned (.plain (OpenSpec.upto grooveReadsSpec)) grooveReadsUptoCard

/-- THE SECOND FORM's CARD OF 'kotatsulaw07.GrooveFits'. -/
def grooveFitsUptoCard : Claim7 := { stood := { row := grooveFitsUptoRow, standIns := [], harness := (true, "1e0e72e89683cd72641e5667086f2051606101859ed6d7cf1a2007ece796c5b4"), looks := false }, kinds := [], alts := [], laidByText := true, laidKinds := [.data, .pinned], laidTests := true, laidLooks := .later }
def GrooveFitsUptoCardSaid : Prop := Claim7.holds Tryd.pinned (.plain (OpenSpec.upto grooveFitsSpec)) grooveFitsUptoCard
end Rows
end Go.Proofs.YtbfibikbhnbinaaDoor
