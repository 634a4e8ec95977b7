/-
  DERIVED. GIVEN WITH THE SEED: THE CARDS: each row of YtigpmmjbdpnkjaaDoorRows.lean that lists a variable, with what it lists TIED to the program's text (the seventh form; the later family's looks); each row that meets fmt, with fmt's text TOLD by the authors' own Lean function (tested against real Go, not proved from fmt's source: count such statements apart). THE CARD IS WHAT COUNTS. Prove the row's statement (the work); the ties are given (YtigpmmjbdpnkjaaDoorTie.lean); close each card by the builder's one call (the guide's Derived/Test/ToyasCard.lean, 'card_holds'). Laid BY PROGRAM, IN A SANDBOX (cutbox-door.mjs). By AI agents, Wed Nov 11 2026. No macro, syntax, notation, axiom, sorry.
-/
import Derived.Test.YtigpmmjbdpnkjaaDoorRows
import GoSem.ClaimSeven
namespace Go.Proofs.YtigpmmjbdpnkjaaDoor
namespace Rows

/-- THE TIED CARD OF 'kotatsulaw08.AluStores'. -/
def aluStoresCard : Claim7 := { stood := { row := aluStoresRow, standIns := [], harness := (true, "9702fbeaf2a7c60b8a491a91de3c66e444ed41f1f75de422475beb1948d853ed"), looks := false }, kinds := [], alts := [], laidByText := true, laidKinds := [.data], laidTests := true, laidLooks := .later }
def AluStoresCardSaid : Prop := Claim7.holds Tryd.pinned (.plain (OpenSpec.ofChange aluStoresSpec)) aluStoresCard

/-- THE SECOND FORM's CARD OF 'kotatsulaw08.AluStores'. -/
def aluStoresUptoCard : Claim7 := { stood := { row := aluStoresUptoRow, standIns := [], harness := (true, "9702fbeaf2a7c60b8a491a91de3c66e444ed41f1f75de422475beb1948d853ed"), looks := false }, kinds := [], alts := [], laidByText := true, laidKinds := [.data], laidTests := true, laidLooks := .later }
def AluStoresUptoCardSaid : Prop := Claim7.holds Tryd.pinned (.plain (OpenSpec.upto aluStoresSpec)) aluStoresUptoCard
end Rows
end Go.Proofs.YtigpmmjbdpnkjaaDoor
