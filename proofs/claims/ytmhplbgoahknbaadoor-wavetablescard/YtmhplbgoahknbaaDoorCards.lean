/-
  DERIVED. GIVEN WITH THE SEED: THE CARDS: each row of YtmhplbgoahknbaaDoorRows.lean that lists a variable, with what it lists TIED to the program's text (the seventh form; the later family's looks); each row that meets fmt, with fmt's text TOLD by the authors' own Lean function (tested against real Go, not proved from fmt's source: count such statements apart). THE CARD IS WHAT COUNTS. Prove the row's statement (the work); the ties are given (YtmhplbgoahknbaaDoorTie.lean); close each card by the builder's one call (the guide's Derived/Test/ToyasCard.lean, 'card_holds'). Laid BY PROGRAM, IN A SANDBOX (cutbox-door.mjs). By AI agents, Wed Nov 11 2026. No macro, syntax, notation, axiom, sorry.
-/
import Derived.Test.YtmhplbgoahknbaaDoorRows
import GoSem.ClaimSeven
namespace Go.Proofs.YtmhplbgoahknbaaDoor
namespace Rows

/-- THE TIED CARD OF 'kotatsulaw13.WavePlays'. -/
def wavePlaysCard : Claim7 := { stood := { row := wavePlaysRow, standIns := [], harness := (true, "33373ccf56350321939acd7ebf7f15266d9da7d4adced19f867ab26a953a7f88"), looks := false }, kinds := [], alts := [], laidByText := true, laidKinds := [.data, .data], laidTests := true, laidLooks := .later }
def WavePlaysCardSaid : Prop := Claim7.holds Tryd.pinned (.plain (OpenSpec.ofChange wavePlaysSpec)) wavePlaysCard

/-- THE TIED CARD OF 'kotatsulaw13.WavePitches'. -/
def wavePitchesCard : Claim7 := { stood := { row := wavePitchesRow, standIns := [], harness := (true, "33373ccf56350321939acd7ebf7f15266d9da7d4adced19f867ab26a953a7f88"), looks := false }, kinds := [], alts := [], laidByText := true, laidKinds := [.data], laidTests := true, laidLooks := .later }
def WavePitchesCardSaid : Prop := Claim7.holds Tryd.pinned (.plain (OpenSpec.ofChange wavePitchesSpec)) wavePitchesCard

/-- THE TIED CARD OF 'kotatsulaw13.WaveTables'. -/
def waveTablesCard : Claim7 := { stood := { row := waveTablesRow, standIns := [], harness := (true, "33373ccf56350321939acd7ebf7f15266d9da7d4adced19f867ab26a953a7f88"), looks := false }, kinds := [], alts := [], laidByText := true, laidKinds := [.data], laidTests := true, laidLooks := .later }
def WaveTablesCardSaid : Prop := Claim7.holds Tryd.pinned (.plain (OpenSpec.ofChange waveTablesSpec)) waveTablesCard

/-- THE TIED CARD OF 'kotatsulaw13.WaveRounds'. -/
def waveRoundsCard : Claim7 := { stood := { row := waveRoundsRow, standIns := [], harness := (true, "33373ccf56350321939acd7ebf7f15266d9da7d4adced19f867ab26a953a7f88"), looks := false }, kinds := [], alts := [], laidByText := true, laidKinds := [.data, .data], laidTests := true, laidLooks := .later }
def WaveRoundsCardSaid : Prop := Claim7.holds Tryd.pinned (.plain (OpenSpec.ofChange waveRoundsSpec)) waveRoundsCard

/-- THE TIED CARD OF 'kotatsulaw13.WaveSlopes'. -/
def waveSlopesCard : Claim7 := { stood := { row := waveSlopesRow, standIns := [], harness := (true, "33373ccf56350321939acd7ebf7f15266d9da7d4adced19f867ab26a953a7f88"), looks := false }, kinds := [], alts := [], laidByText := true, laidKinds := [.data, .data], laidTests := true, laidLooks := .later }
def WaveSlopesCardSaid : Prop := Claim7.holds Tryd.pinned (.plain (OpenSpec.ofChange waveSlopesSpec)) waveSlopesCard

/-- THE TIED CARD OF 'kotatsulaw13.WaveRanges'. -/
def waveRangesCard : Claim7 := { stood := { row := waveRangesRow, standIns := [], harness := (true, "33373ccf56350321939acd7ebf7f15266d9da7d4adced19f867ab26a953a7f88"), looks := false }, kinds := [], alts := [], laidByText := true, laidKinds := [.data, .data], laidTests := true, laidLooks := .later }
def WaveRangesCardSaid : Prop := Claim7.holds Tryd.pinned (.plain (OpenSpec.ofChange waveRangesSpec)) waveRangesCard

/-- THE TIED CARD OF 'kotatsulaw13.WaveNil'. -/
def waveNilCard : Claim7 := { stood := { row := waveNilRow, standIns := [], harness := (true, "33373ccf56350321939acd7ebf7f15266d9da7d4adced19f867ab26a953a7f88"), looks := false }, kinds := [], alts := [], laidByText := true, laidKinds := [.data, .data], laidTests := true, laidLooks := .later }
def WaveNilCardSaid : Prop := Claim7.holds Tryd.pinned (.plain (OpenSpec.ofChange waveNilSpec)) waveNilCard

/-- THE SECOND FORM's CARD OF 'kotatsulaw13.WavePlays'. -/
def wavePlaysUptoCard : Claim7 := { stood := { row := wavePlaysUptoRow, standIns := [], harness := (true, "33373ccf56350321939acd7ebf7f15266d9da7d4adced19f867ab26a953a7f88"), looks := false }, kinds := [], alts := [], laidByText := true, laidKinds := [.data, .data], laidTests := true, laidLooks := .later }
def WavePlaysUptoCardSaid : Prop := Claim7.holds Tryd.pinned (.plain (OpenSpec.upto wavePlaysSpec)) wavePlaysUptoCard

/-- THE SECOND FORM's CARD OF 'kotatsulaw13.WavePitches'. -/
def wavePitchesUptoCard : Claim7 := { stood := { row := wavePitchesUptoRow, standIns := [], harness := (true, "33373ccf56350321939acd7ebf7f15266d9da7d4adced19f867ab26a953a7f88"), looks := false }, kinds := [], alts := [], laidByText := true, laidKinds := [.data], laidTests := true, laidLooks := .later }
def WavePitchesUptoCardSaid : Prop := Claim7.holds Tryd.pinned (.plain (OpenSpec.upto wavePitchesSpec)) wavePitchesUptoCard

/-- THE SECOND FORM's CARD OF 'kotatsulaw13.WaveTables'. -/
def waveTablesUptoCard : Claim7 := { stood := { row := waveTablesUptoRow, standIns := [], harness := (true, "33373ccf56350321939acd7ebf7f15266d9da7d4adced19f867ab26a953a7f88"), looks := false }, kinds := [], alts := [], laidByText := true, laidKinds := [.data], laidTests := true, laidLooks := .later }
def WaveTablesUptoCardSaid : Prop := Claim7.holds Tryd.pinned (.plain (OpenSpec.upto waveTablesSpec)) waveTablesUptoCard

/-- THE SECOND FORM's CARD OF 'kotatsulaw13.WaveRounds'. -/
def waveRoundsUptoCard : Claim7 := { stood := { row := waveRoundsUptoRow, standIns := [], harness := (true, "33373ccf56350321939acd7ebf7f15266d9da7d4adced19f867ab26a953a7f88"), looks := false }, kinds := [], alts := [], laidByText := true, laidKinds := [.data, .data], laidTests := true, laidLooks := .later }
def WaveRoundsUptoCardSaid : Prop := Claim7.holds Tryd.pinned (.plain (OpenSpec.upto waveRoundsSpec)) waveRoundsUptoCard

/-- THE SECOND FORM's CARD OF 'kotatsulaw13.WaveSlopes'. -/
def waveSlopesUptoCard : Claim7 := { stood := { row := waveSlopesUptoRow, standIns := [], harness := (true, "33373ccf56350321939acd7ebf7f15266d9da7d4adced19f867ab26a953a7f88"), looks := false }, kinds := [], alts := [], laidByText := true, laidKinds := [.data, .data], laidTests := true, laidLooks := .later }
def WaveSlopesUptoCardSaid : Prop := Claim7.holds Tryd.pinned (.plain (OpenSpec.upto waveSlopesSpec)) waveSlopesUptoCard

/-- THE SECOND FORM's CARD OF 'kotatsulaw13.WaveRanges'. -/
def waveRangesUptoCard : Claim7 := { stood := { row := waveRangesUptoRow, standIns := [], harness := (true, "33373ccf56350321939acd7ebf7f15266d9da7d4adced19f867ab26a953a7f88"), looks := false }, kinds := [], alts := [], laidByText := true, laidKinds := [.data, .data], laidTests := true, laidLooks := .later }
def WaveRangesUptoCardSaid : Prop := Claim7.holds Tryd.pinned (.plain (OpenSpec.upto waveRangesSpec)) waveRangesUptoCard

/-- THE SECOND FORM's CARD OF 'kotatsulaw13.WaveNil'. -/
def waveNilUptoCard : Claim7 := { stood := { row := waveNilUptoRow, standIns := [], harness := (true, "33373ccf56350321939acd7ebf7f15266d9da7d4adced19f867ab26a953a7f88"), looks := false }, kinds := [], alts := [], laidByText := true, laidKinds := [.data, .data], laidTests := true, laidLooks := .later }
def WaveNilUptoCardSaid : Prop := Claim7.holds Tryd.pinned (.plain (OpenSpec.upto waveNilSpec)) waveNilUptoCard
end Rows
end Go.Proofs.YtmhplbgoahknbaaDoor
