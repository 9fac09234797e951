/-
  DERIVED. GIVEN WITH THE SEED: THE CARDS: each row of YthkfkcjhmhjocaaDoorRows.lean that lists a variable, with what it lists TIED to the program's text (the seventh form; the later family's looks); each row that meets fmt, with fmt's text TOLD by the authors' own Lean function (tested against real Go, not proved from fmt's source: count such statements apart). THE CARD IS WHAT COUNTS. Prove the row's statement (the work); the ties are given (YthkfkcjhmhjocaaDoorTie.lean); close each card by the builder's one call (the guide's Derived/Test/ToyasCard.lean, 'card_holds'). Laid BY PROGRAM, IN A SANDBOX (cutbox-door.mjs). By AI agents, Wed Nov 11 2026. No macro, syntax, notation, axiom, sorry.
-/
import Derived.Test.YthkfkcjhmhjocaaDoorRows
import GoSem.ClaimSeven
namespace Go.Proofs.YthkfkcjhmhjocaaDoor
namespace Rows

/-- THE TIED CARD OF 'rivuletlaw02.CheckSums'. -/
def checkSumsCard : Claim7 := { stood := { row := checkSumsRow, standIns := [], harness := (true, "fcae772fe630f92fa318a0ea8a7b97d7b0b167ca65e9666aa3c9777f58fb0482"), looks := false }, kinds := [], alts := [], laidByText := true, laidKinds := [.data], laidTests := true, laidLooks := .later }
def CheckSumsCardSaid : Prop := Claim7.holds Tryd.pinned (.plain (OpenSpec.ofChange checkSumsSpec)) checkSumsCard

/-- THE TIED CARD OF 'rivuletlaw02.CheckOpens'. -/
def checkOpensCard : Claim7 := { stood := { row := checkOpensRow, standIns := [], harness := (true, "fcae772fe630f92fa318a0ea8a7b97d7b0b167ca65e9666aa3c9777f58fb0482"), looks := false }, kinds := [], alts := [], laidByText := true, laidKinds := [.data], laidTests := true, laidLooks := .later }
def CheckOpensCardSaid : Prop := Claim7.holds Tryd.pinned (.plain (OpenSpec.ofChange checkOpensSpec)) checkOpensCard

/-- THE TIED CARD OF 'rivuletlaw02.CheckBack'. -/
def checkBackCard : Claim7 := { stood := { row := checkBackRow, standIns := [], harness := (true, "fcae772fe630f92fa318a0ea8a7b97d7b0b167ca65e9666aa3c9777f58fb0482"), looks := false }, kinds := [], alts := [], laidByText := true, laidKinds := [.data], laidTests := true, laidLooks := .later }
def CheckBackCardSaid : Prop := Claim7.holds Tryd.pinned (.plain (OpenSpec.ofChange checkBackSpec)) checkBackCard

/-- THE TIED CARD OF 'rivuletlaw02.CheckJoins'. -/
def checkJoinsCard : Claim7 := { stood := { row := checkJoinsRow, standIns := [], harness := (true, "fcae772fe630f92fa318a0ea8a7b97d7b0b167ca65e9666aa3c9777f58fb0482"), looks := false }, kinds := [], alts := [], laidByText := true, laidKinds := [.data], laidTests := true, laidLooks := .later }
def CheckJoinsCardSaid : Prop := Claim7.holds Tryd.pinned (.plain (OpenSpec.ofChange checkJoinsSpec)) checkJoinsCard

/-- THE TIED CARD OF 'rivuletlaw02.CheckBits'. -/
def checkBitsCard : Claim7 := { stood := { row := checkBitsRow, standIns := [], harness := (true, "fcae772fe630f92fa318a0ea8a7b97d7b0b167ca65e9666aa3c9777f58fb0482"), looks := false }, kinds := [], alts := [], laidByText := true, laidKinds := [.data], laidTests := true, laidLooks := .later }
def CheckBitsCardSaid : Prop := Claim7.holds Tryd.pinned (.plain (OpenSpec.ofChange checkBitsSpec)) checkBitsCard

/-- THE TIED CARD OF 'rivuletlaw02.CheckTorn'. -/
def checkTornCard : Claim7 := { stood := { row := checkTornRow, standIns := [], harness := (true, "fcae772fe630f92fa318a0ea8a7b97d7b0b167ca65e9666aa3c9777f58fb0482"), looks := false }, kinds := [], alts := [], laidByText := true, laidKinds := [.data], laidTests := true, laidLooks := .later }
def CheckTornCardSaid : Prop := Claim7.holds Tryd.pinned (.plain (OpenSpec.ofChange checkTornSpec)) checkTornCard

/-- THE TIED CARD OF 'rivuletlaw02.CheckRows'. -/
def checkRowsCard : Claim7 := { stood := { row := checkRowsRow, standIns := [], harness := (true, "fcae772fe630f92fa318a0ea8a7b97d7b0b167ca65e9666aa3c9777f58fb0482"), looks := false }, kinds := [], alts := [], laidByText := true, laidKinds := [.data], laidTests := true, laidLooks := .later }
def CheckRowsCardSaid : Prop := Claim7.holds Tryd.pinned (.plain (OpenSpec.ofChange checkRowsSpec)) checkRowsCard

/-- THE TIED CARD OF 'rivuletlaw02.CheckTexts'. -/
def checkTextsCard : Claim7 := { stood := { row := checkTextsRow, standIns := [], harness := (true, "fcae772fe630f92fa318a0ea8a7b97d7b0b167ca65e9666aa3c9777f58fb0482"), looks := false }, kinds := [], alts := [], laidByText := true, laidKinds := [.data], laidTests := true, laidLooks := .later }
def CheckTextsCardSaid : Prop := Claim7.holds Tryd.pinned (.plain (OpenSpec.ofChange checkTextsSpec)) checkTextsCard

/-- THE SECOND FORM's CARD OF 'rivuletlaw02.CheckSums'. -/
def checkSumsUptoCard : Claim7 := { stood := { row := checkSumsUptoRow, standIns := [], harness := (true, "fcae772fe630f92fa318a0ea8a7b97d7b0b167ca65e9666aa3c9777f58fb0482"), looks := false }, kinds := [], alts := [], laidByText := true, laidKinds := [.data], laidTests := true, laidLooks := .later }
def CheckSumsUptoCardSaid : Prop := Claim7.holds Tryd.pinned (.plain (OpenSpec.upto checkSumsSpec)) checkSumsUptoCard

/-- THE SECOND FORM's CARD OF 'rivuletlaw02.CheckOpens'. -/
def checkOpensUptoCard : Claim7 := { stood := { row := checkOpensUptoRow, standIns := [], harness := (true, "fcae772fe630f92fa318a0ea8a7b97d7b0b167ca65e9666aa3c9777f58fb0482"), looks := false }, kinds := [], alts := [], laidByText := true, laidKinds := [.data], laidTests := true, laidLooks := .later }
def CheckOpensUptoCardSaid : Prop := Claim7.holds Tryd.pinned (.plain (OpenSpec.upto checkOpensSpec)) checkOpensUptoCard

/-- THE SECOND FORM's CARD OF 'rivuletlaw02.CheckBack'. -/
def checkBackUptoCard : Claim7 := { stood := { row := checkBackUptoRow, standIns := [], harness := (true, "fcae772fe630f92fa318a0ea8a7b97d7b0b167ca65e9666aa3c9777f58fb0482"), looks := false }, kinds := [], alts := [], laidByText := true, laidKinds := [.data], laidTests := true, laidLooks := .later }
def CheckBackUptoCardSaid : Prop := Claim7.holds Tryd.pinned (.plain (OpenSpec.upto checkBackSpec)) checkBackUptoCard

/-- THE SECOND FORM's CARD OF 'rivuletlaw02.CheckJoins'. -/
def checkJoinsUptoCard : Claim7 := { stood := { row := checkJoinsUptoRow, standIns := [], harness := (true, "fcae772fe630f92fa318a0ea8a7b97d7b0b167ca65e9666aa3c9777f58fb0482"), looks := false }, kinds := [], alts := [], laidByText := true, laidKinds := [.data], laidTests := true, laidLooks := .later }
def CheckJoinsUptoCardSaid : Prop := Claim7.holds Tryd.pinned (.plain (OpenSpec.upto checkJoinsSpec)) checkJoinsUptoCard

/-- THE SECOND FORM's CARD OF 'rivuletlaw02.CheckBits'. -/
def checkBitsUptoCard : Claim7 := { stood := { row := checkBitsUptoRow, standIns := [], harness := (true, "fcae772fe630f92fa318a0ea8a7b97d7b0b167ca65e9666aa3c9777f58fb0482"), looks := false }, kinds := [], alts := [], laidByText := true, laidKinds := [.data], laidTests := true, laidLooks := .later }
def CheckBitsUptoCardSaid : Prop := Claim7.holds Tryd.pinned (.plain (OpenSpec.upto checkBitsSpec)) checkBitsUptoCard

/-- THE SECOND FORM's CARD OF 'rivuletlaw02.CheckTorn'. -/
def checkTornUptoCard : Claim7 := { stood := { row := checkTornUptoRow, standIns := [], harness := (true, "fcae772fe630f92fa318a0ea8a7b97d7b0b167ca65e9666aa3c9777f58fb0482"), looks := false }, kinds := [], alts := [], laidByText := true, laidKinds := [.data], laidTests := true, laidLooks := .later }
def CheckTornUptoCardSaid : Prop := Claim7.holds Tryd.pinned (.plain (OpenSpec.upto checkTornSpec)) checkTornUptoCard

/-- THE SECOND FORM's CARD OF 'rivuletlaw02.CheckRows'. -/
def checkRowsUptoCard : Claim7 := { stood := { row := checkRowsUptoRow, standIns := [], harness := (true, "fcae772fe630f92fa318a0ea8a7b97d7b0b167ca65e9666aa3c9777f58fb0482"), looks := false }, kinds := [], alts := [], laidByText := true, laidKinds := [.data], laidTests := true, laidLooks := .later }
def CheckRowsUptoCardSaid : Prop := Claim7.holds Tryd.pinned (.plain (OpenSpec.upto checkRowsSpec)) checkRowsUptoCard

/-- THE SECOND FORM's CARD OF 'rivuletlaw02.CheckTexts'. -/
def checkTextsUptoCard : Claim7 := { stood := { row := checkTextsUptoRow, standIns := [], harness := (true, "fcae772fe630f92fa318a0ea8a7b97d7b0b167ca65e9666aa3c9777f58fb0482"), looks := false }, kinds := [], alts := [], laidByText := true, laidKinds := [.data], laidTests := true, laidLooks := .later }
def CheckTextsUptoCardSaid : Prop := Claim7.holds Tryd.pinned (.plain (OpenSpec.upto checkTextsSpec)) checkTextsUptoCard
end Rows
end Go.Proofs.YthkfkcjhmhjocaaDoor
