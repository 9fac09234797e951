/-
  DERIVED. GIVEN WITH THE SEED: THE CARDS: each row of YtehcmdpnkappeaaDoorRows.lean that lists a variable, with what it lists TIED to the program's text (the seventh form; the later family's looks); each row that meets fmt, with fmt's text TOLD by the authors' own Lean function (tested against real Go, not proved from fmt's source: count such statements apart). THE CARD IS WHAT COUNTS. Prove the row's statement (the work); the ties are given (YtehcmdpnkappeaaDoorTie.lean); close each card by the builder's one call (the guide's Derived/Test/ToyasCard.lean, 'card_holds'). Laid BY PROGRAM, IN A SANDBOX (cutbox-door.mjs). By AI agents, Wed Nov 11 2026. No macro, syntax, notation, axiom, sorry.
-/
import Derived.Test.YtehcmdpnkappeaaDoorRows
import GoSem.ClaimSeven
namespace Go.Proofs.YtehcmdpnkappeaaDoor
namespace Rows

/-- THE TIED CARD OF 'rivuletlaw01.VarintPuts'. -/
def varintPutsCard : Claim7 := { stood := { row := varintPutsRow, standIns := [], harness := (true, "7d3f8b49650c9a889e7b35382ef4d2fc98270090cb872481bd6d3ec0720ddb4b"), looks := false }, kinds := [], alts := [], laidByText := true, laidKinds := [.data], laidTests := true, laidLooks := .later }
def VarintPutsCardSaid : Prop := Claim7.holds Tryd.pinned (.plain (OpenSpec.ofChange varintPutsSpec)) varintPutsCard

/-- THE TIED CARD OF 'rivuletlaw01.VarintGets'. -/
def varintGetsCard : Claim7 := { stood := { row := varintGetsRow, standIns := [], harness := (true, "7d3f8b49650c9a889e7b35382ef4d2fc98270090cb872481bd6d3ec0720ddb4b"), looks := false }, kinds := [], alts := [], laidByText := true, laidKinds := [.data], laidTests := true, laidLooks := .later }
def VarintGetsCardSaid : Prop := Claim7.holds Tryd.pinned (.plain (OpenSpec.ofChange varintGetsSpec)) varintGetsCard

/-- THE TIED CARD OF 'rivuletlaw01.VarintBack'. -/
def varintBackCard : Claim7 := { stood := { row := varintBackRow, standIns := [], harness := (true, "7d3f8b49650c9a889e7b35382ef4d2fc98270090cb872481bd6d3ec0720ddb4b"), looks := false }, kinds := [], alts := [], laidByText := true, laidKinds := [.data], laidTests := true, laidLooks := .later }
def VarintBackCardSaid : Prop := Claim7.holds Tryd.pinned (.plain (OpenSpec.ofChange varintBackSpec)) varintBackCard

/-- THE TIED CARD OF 'rivuletlaw01.VarintOrder'. -/
def varintOrderCard : Claim7 := { stood := { row := varintOrderRow, standIns := [], harness := (true, "7d3f8b49650c9a889e7b35382ef4d2fc98270090cb872481bd6d3ec0720ddb4b"), looks := false }, kinds := [], alts := [], laidByText := true, laidKinds := [.data], laidTests := true, laidLooks := .later }
def VarintOrderCardSaid : Prop := Claim7.holds Tryd.pinned (.plain (OpenSpec.ofChange varintOrderSpec)) varintOrderCard

/-- THE TIED CARD OF 'rivuletlaw01.VarintRows'. -/
def varintRowsCard : Claim7 := { stood := { row := varintRowsRow, standIns := [], harness := (true, "7d3f8b49650c9a889e7b35382ef4d2fc98270090cb872481bd6d3ec0720ddb4b"), looks := false }, kinds := [], alts := [], laidByText := true, laidKinds := [.data], laidTests := true, laidLooks := .later }
def VarintRowsCardSaid : Prop := Claim7.holds Tryd.pinned (.plain (OpenSpec.ofChange varintRowsSpec)) varintRowsCard

/-- THE TIED CARD OF 'rivuletlaw01.VarintCuts'. -/
def varintCutsCard : Claim7 := { stood := { row := varintCutsRow, standIns := [], harness := (true, "7d3f8b49650c9a889e7b35382ef4d2fc98270090cb872481bd6d3ec0720ddb4b"), looks := false }, kinds := [], alts := [], laidByText := true, laidKinds := [.data], laidTests := true, laidLooks := .later }
def VarintCutsCardSaid : Prop := Claim7.holds Tryd.pinned (.plain (OpenSpec.ofChange varintCutsSpec)) varintCutsCard

/-- THE TIED CARD OF 'rivuletlaw01.VarintSizes'. -/
def varintSizesCard : Claim7 := { stood := { row := varintSizesRow, standIns := [], harness := (true, "7d3f8b49650c9a889e7b35382ef4d2fc98270090cb872481bd6d3ec0720ddb4b"), looks := false }, kinds := [], alts := [], laidByText := true, laidKinds := [.data], laidTests := true, laidLooks := .later }
def VarintSizesCardSaid : Prop := Claim7.holds Tryd.pinned (.plain (OpenSpec.ofChange varintSizesSpec)) varintSizesCard

/-- THE TIED CARD OF 'rivuletlaw01.VarintLess'. -/
def varintLessCard : Claim7 := { stood := { row := varintLessRow, standIns := [], harness := (true, "7d3f8b49650c9a889e7b35382ef4d2fc98270090cb872481bd6d3ec0720ddb4b"), looks := false }, kinds := [], alts := [], laidByText := true, laidKinds := [.data], laidTests := true, laidLooks := .later }
def VarintLessCardSaid : Prop := Claim7.holds Tryd.pinned (.plain (OpenSpec.ofChange varintLessSpec)) varintLessCard

/-- THE SECOND FORM's CARD OF 'rivuletlaw01.VarintPuts'. -/
def varintPutsUptoCard : Claim7 := { stood := { row := varintPutsUptoRow, standIns := [], harness := (true, "7d3f8b49650c9a889e7b35382ef4d2fc98270090cb872481bd6d3ec0720ddb4b"), looks := false }, kinds := [], alts := [], laidByText := true, laidKinds := [.data], laidTests := true, laidLooks := .later }
def VarintPutsUptoCardSaid : Prop := Claim7.holds Tryd.pinned (.plain (OpenSpec.upto varintPutsSpec)) varintPutsUptoCard

/-- THE SECOND FORM's CARD OF 'rivuletlaw01.VarintGets'. -/
def varintGetsUptoCard : Claim7 := { stood := { row := varintGetsUptoRow, standIns := [], harness := (true, "7d3f8b49650c9a889e7b35382ef4d2fc98270090cb872481bd6d3ec0720ddb4b"), looks := false }, kinds := [], alts := [], laidByText := true, laidKinds := [.data], laidTests := true, laidLooks := .later }
def VarintGetsUptoCardSaid : Prop := Claim7.holds Tryd.pinned (.plain (OpenSpec.upto varintGetsSpec)) varintGetsUptoCard

/-- THE SECOND FORM's CARD OF 'rivuletlaw01.VarintBack'. -/
def varintBackUptoCard : Claim7 := { stood := { row := varintBackUptoRow, standIns := [], harness := (true, "7d3f8b49650c9a889e7b35382ef4d2fc98270090cb872481bd6d3ec0720ddb4b"), looks := false }, kinds := [], alts := [], laidByText := true, laidKinds := [.data], laidTests := true, laidLooks := .later }
def VarintBackUptoCardSaid : Prop := Claim7.holds Tryd.pinned (.plain (OpenSpec.upto varintBackSpec)) varintBackUptoCard

/-- THE SECOND FORM's CARD OF 'rivuletlaw01.VarintOrder'. -/
def varintOrderUptoCard : Claim7 := { stood := { row := varintOrderUptoRow, standIns := [], harness := (true, "7d3f8b49650c9a889e7b35382ef4d2fc98270090cb872481bd6d3ec0720ddb4b"), looks := false }, kinds := [], alts := [], laidByText := true, laidKinds := [.data], laidTests := true, laidLooks := .later }
def VarintOrderUptoCardSaid : Prop := Claim7.holds Tryd.pinned (.plain (OpenSpec.upto varintOrderSpec)) varintOrderUptoCard

/-- THE SECOND FORM's CARD OF 'rivuletlaw01.VarintRows'. -/
def varintRowsUptoCard : Claim7 := { stood := { row := varintRowsUptoRow, standIns := [], harness := (true, "7d3f8b49650c9a889e7b35382ef4d2fc98270090cb872481bd6d3ec0720ddb4b"), looks := false }, kinds := [], alts := [], laidByText := true, laidKinds := [.data], laidTests := true, laidLooks := .later }
def VarintRowsUptoCardSaid : Prop := Claim7.holds Tryd.pinned (.plain (OpenSpec.upto varintRowsSpec)) varintRowsUptoCard

/-- THE SECOND FORM's CARD OF 'rivuletlaw01.VarintCuts'. -/
def varintCutsUptoCard : Claim7 := { stood := { row := varintCutsUptoRow, standIns := [], harness := (true, "7d3f8b49650c9a889e7b35382ef4d2fc98270090cb872481bd6d3ec0720ddb4b"), looks := false }, kinds := [], alts := [], laidByText := true, laidKinds := [.data], laidTests := true, laidLooks := .later }
def VarintCutsUptoCardSaid : Prop := Claim7.holds Tryd.pinned (.plain (OpenSpec.upto varintCutsSpec)) varintCutsUptoCard

/-- THE SECOND FORM's CARD OF 'rivuletlaw01.VarintSizes'. -/
def varintSizesUptoCard : Claim7 := { stood := { row := varintSizesUptoRow, standIns := [], harness := (true, "7d3f8b49650c9a889e7b35382ef4d2fc98270090cb872481bd6d3ec0720ddb4b"), looks := false }, kinds := [], alts := [], laidByText := true, laidKinds := [.data], laidTests := true, laidLooks := .later }
def VarintSizesUptoCardSaid : Prop := Claim7.holds Tryd.pinned (.plain (OpenSpec.upto varintSizesSpec)) varintSizesUptoCard

/-- THE SECOND FORM's CARD OF 'rivuletlaw01.VarintLess'. -/
def varintLessUptoCard : Claim7 := { stood := { row := varintLessUptoRow, standIns := [], harness := (true, "7d3f8b49650c9a889e7b35382ef4d2fc98270090cb872481bd6d3ec0720ddb4b"), looks := false }, kinds := [], alts := [], laidByText := true, laidKinds := [.data], laidTests := true, laidLooks := .later }
def VarintLessUptoCardSaid : Prop := Claim7.holds Tryd.pinned (.plain (OpenSpec.upto varintLessSpec)) varintLessUptoCard
end Rows
end Go.Proofs.YtehcmdpnkappeaaDoor
