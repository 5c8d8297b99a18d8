/-
  DERIVED. GIVEN WITH THE SEED: THE CARDS: each row of YtdllmodgefolbaaDoorRows.lean that lists a variable, with what it lists TIED to the program's text (the seventh form; the later family's looks); each row that meets fmt, with fmt's text TOLD by the authors' own Lean function (tested against real Go, not proved from fmt's source: count such statements apart). THE CARD IS WHAT COUNTS. Prove the row's statement (the work); the ties are given (YtdllmodgefolbaaDoorTie.lean); close each card by the builder's one call (the guide's Derived/Test/ToyasCard.lean, 'card_holds'). Laid BY PROGRAM, IN A SANDBOX (cutbox-door.mjs). By AI agents, Wed Nov 11 2026. No macro, syntax, notation, axiom, sorry.
-/
import Derived.Test.YtdllmodgefolbaaDoorRows
import GoSem.ClaimSeven
namespace Go.Proofs.YtdllmodgefolbaaDoor
namespace Rows

/-- THE TIED CARD OF 'breviarylaw6.RootBytes'. -/
def rootBytesCard : Claim7 := { stood := { row := rootBytesRow, standIns := [], harness := (true, "7ed81aa297536ef084acc32e2f2b8621674504a2e116b7b282d798983418f429"), looks := true }, kinds := [], alts := [], laidByText := true, laidKinds := [.sentinel, .sentinel, .sentinel, .sentinel, .sentinel, .sentinel, .sentinel, .sentinel, .sentinel, .sentinel, .sentinel, .sentinel, .sentinel, .sentinel, .sentinel, .sentinel, .sentinel, .sentinel, .sentinel, .sentinel, .sentinel, .sentinel, .sentinel, .sentinel], laidTests := true, laidLooks := .later }
def RootBytesCardSaid : Prop := Claim7.holds Tryd.pinned (.plain (OpenSpec.ofChange rootBytesSpec)) rootBytesCard

/-- THE TIED CARD OF 'breviarylaw6.RootTells'. -/
def rootTellsCard : Claim7 := { stood := { row := rootTellsRow, standIns := [], harness := (true, "7ed81aa297536ef084acc32e2f2b8621674504a2e116b7b282d798983418f429"), looks := true }, kinds := [], alts := [], laidByText := true, laidKinds := [.sentinel, .sentinel, .sentinel, .sentinel, .sentinel, .sentinel], laidTests := true, laidLooks := .later }
def RootTellsCardSaid : Prop := Claim7.holds Tryd.pinned (.plain (OpenSpec.ofChange rootTellsSpec)) rootTellsCard

/-- THE TIED CARD OF 'breviarylaw6.RootSaves'. -/
def rootSavesCard : Claim7 := { stood := { row := rootSavesRow, standIns := [], harness := (true, "7ed81aa297536ef084acc32e2f2b8621674504a2e116b7b282d798983418f429"), looks := true }, kinds := [], alts := [], laidByText := true, laidKinds := [.sentinel, .sentinel, .sentinel, .sentinel, .sentinel, .sentinel, .sentinel, .sentinel, .sentinel, .sentinel, .sentinel, .sentinel, .sentinel, .sentinel, .sentinel, .sentinel, .sentinel, .sentinel, .sentinel, .sentinel, .sentinel, .sentinel, .sentinel, .sentinel], laidTests := true, laidLooks := .later }
def RootSavesCardSaid : Prop := Claim7.holds Tryd.pinned (.plain (OpenSpec.ofChange rootSavesSpec)) rootSavesCard

/-- THE TIED CARD OF 'breviarylaw6.RootFaults'. -/
def rootFaultsCard : Claim7 := { stood := { row := rootFaultsRow, standIns := [], harness := (true, "7ed81aa297536ef084acc32e2f2b8621674504a2e116b7b282d798983418f429"), looks := true }, kinds := [], alts := [], laidByText := true, laidKinds := [.sentinel, .sentinel, .sentinel, .sentinel, .sentinel, .sentinel], laidTests := true, laidLooks := .later }
def RootFaultsCardSaid : Prop := Claim7.holds Tryd.pinned (.plain (OpenSpec.ofChange rootFaultsSpec)) rootFaultsCard

/-- THE TIED CARD OF 'breviarylaw6.RootGreater'. -/
def rootGreaterCard : Claim7 := { stood := { row := rootGreaterRow, standIns := [], harness := (true, "7ed81aa297536ef084acc32e2f2b8621674504a2e116b7b282d798983418f429"), looks := true }, kinds := [], alts := [], laidByText := true, laidKinds := [.sentinel, .sentinel, .sentinel, .sentinel, .sentinel, .sentinel], laidTests := true, laidLooks := .later }
def RootGreaterCardSaid : Prop := Claim7.holds Tryd.pinned (.plain (OpenSpec.ofChange rootGreaterSpec)) rootGreaterCard

/-- THE TIED CARD OF 'breviarylaw6.RootHalf'. -/
def rootHalfCard : Claim7 := { stood := { row := rootHalfRow, standIns := [], harness := (true, "7ed81aa297536ef084acc32e2f2b8621674504a2e116b7b282d798983418f429"), looks := true }, kinds := [], alts := [], laidByText := true, laidKinds := [.sentinel, .sentinel, .sentinel, .sentinel, .sentinel, .sentinel], laidTests := true, laidLooks := .later }
def RootHalfCardSaid : Prop := Claim7.holds Tryd.pinned (.plain (OpenSpec.ofChange rootHalfSpec)) rootHalfCard

/-- THE SECOND FORM's CARD OF 'breviarylaw6.RootBytes'. -/
def rootBytesUptoCard : Claim7 := { stood := { row := rootBytesUptoRow, standIns := [], harness := (true, "7ed81aa297536ef084acc32e2f2b8621674504a2e116b7b282d798983418f429"), looks := true }, kinds := [], alts := [], laidByText := true, laidKinds := [.sentinel, .sentinel, .sentinel, .sentinel, .sentinel, .sentinel, .sentinel, .sentinel, .sentinel, .sentinel, .sentinel, .sentinel, .sentinel, .sentinel, .sentinel, .sentinel, .sentinel, .sentinel, .sentinel, .sentinel, .sentinel, .sentinel, .sentinel, .sentinel], laidTests := true, laidLooks := .later }
def RootBytesUptoCardSaid : Prop := Claim7.holds Tryd.pinned (.plain (OpenSpec.upto rootBytesSpec)) rootBytesUptoCard

/-- THE SECOND FORM's CARD OF 'breviarylaw6.RootTells'. -/
def rootTellsUptoCard : Claim7 := { stood := { row := rootTellsUptoRow, standIns := [], harness := (true, "7ed81aa297536ef084acc32e2f2b8621674504a2e116b7b282d798983418f429"), looks := true }, kinds := [], alts := [], laidByText := true, laidKinds := [.sentinel, .sentinel, .sentinel, .sentinel, .sentinel, .sentinel], laidTests := true, laidLooks := .later }
def RootTellsUptoCardSaid : Prop := Claim7.holds Tryd.pinned (.plain (OpenSpec.upto rootTellsSpec)) rootTellsUptoCard

/-- THE SECOND FORM's CARD OF 'breviarylaw6.RootSaves'. -/
def rootSavesUptoCard : Claim7 := { stood := { row := rootSavesUptoRow, standIns := [], harness := (true, "7ed81aa297536ef084acc32e2f2b8621674504a2e116b7b282d798983418f429"), looks := true }, kinds := [], alts := [], laidByText := true, laidKinds := [.sentinel, .sentinel, .sentinel, .sentinel, .sentinel, .sentinel, .sentinel, .sentinel, .sentinel, .sentinel, .sentinel, .sentinel, .sentinel, .sentinel, .sentinel, .sentinel, .sentinel, .sentinel, .sentinel, .sentinel, .sentinel, .sentinel, .sentinel, .sentinel], laidTests := true, laidLooks := .later }
def RootSavesUptoCardSaid : Prop := Claim7.holds Tryd.pinned (.plain (OpenSpec.upto rootSavesSpec)) rootSavesUptoCard

/-- THE SECOND FORM's CARD OF 'breviarylaw6.RootFaults'. -/
def rootFaultsUptoCard : Claim7 := { stood := { row := rootFaultsUptoRow, standIns := [], harness := (true, "7ed81aa297536ef084acc32e2f2b8621674504a2e116b7b282d798983418f429"), looks := true }, kinds := [], alts := [], laidByText := true, laidKinds := [.sentinel, .sentinel, .sentinel, .sentinel, .sentinel, .sentinel], laidTests := true, laidLooks := .later }
def RootFaultsUptoCardSaid : Prop := Claim7.holds Tryd.pinned (.plain (OpenSpec.upto rootFaultsSpec)) rootFaultsUptoCard

/-- THE SECOND FORM's CARD OF 'breviarylaw6.RootGreater'. -/
def rootGreaterUptoCard : Claim7 := { stood := { row := rootGreaterUptoRow, standIns := [], harness := (true, "7ed81aa297536ef084acc32e2f2b8621674504a2e116b7b282d798983418f429"), looks := true }, kinds := [], alts := [], laidByText := true, laidKinds := [.sentinel, .sentinel, .sentinel, .sentinel, .sentinel, .sentinel], laidTests := true, laidLooks := .later }
def RootGreaterUptoCardSaid : Prop := Claim7.holds Tryd.pinned (.plain (OpenSpec.upto rootGreaterSpec)) rootGreaterUptoCard

/-- THE SECOND FORM's CARD OF 'breviarylaw6.RootHalf'. -/
def rootHalfUptoCard : Claim7 := { stood := { row := rootHalfUptoRow, standIns := [], harness := (true, "7ed81aa297536ef084acc32e2f2b8621674504a2e116b7b282d798983418f429"), looks := true }, kinds := [], alts := [], laidByText := true, laidKinds := [.sentinel, .sentinel, .sentinel, .sentinel, .sentinel, .sentinel], laidTests := true, laidLooks := .later }
def RootHalfUptoCardSaid : Prop := Claim7.holds Tryd.pinned (.plain (OpenSpec.upto rootHalfSpec)) rootHalfUptoCard
end Rows
end Go.Proofs.YtdllmodgefolbaaDoor
