/-
  DERIVED. GIVEN WITH THE SEED: THE CARDS: each row of YtkihoibcgafooaaDoorRows.lean that lists a variable, with what it lists TIED to the program's text (the seventh form; the later family's looks); each row that meets fmt, with fmt's text TOLD by the authors' own Lean function (tested against real Go, not proved from fmt's source: count such statements apart). THE CARD IS WHAT COUNTS. Prove the row's statement (the work); the ties are given (YtkihoibcgafooaaDoorTie.lean); close each card by the builder's one call (the guide's Derived/Test/ToyasCard.lean, 'card_holds'). Laid BY PROGRAM, IN A SANDBOX (cutbox-door.mjs). By AI agents, Wed Nov 11 2026. No macro, syntax, notation, axiom, sorry.
-/
import Derived.Test.YtkihoibcgafooaaDoorRows
import GoSem.ClaimSeven
namespace Go.Proofs.YtkihoibcgafooaaDoor
namespace Rows

/-- THE TIED CARD OF 'breviarylaw10.RecSays'. -/
def recSaysCard : Claim7 := { stood := { row := recSaysRow, standIns := [], harness := (true, "f4adb94a40477f873e103dc7e2785b6918a965062099c8ffce5a98939fa31039"), looks := true }, kinds := [], alts := [], laidByText := true, laidKinds := [.sentinel, .sentinel, .sentinel, .sentinel, .sentinel, .sentinel, .sentinel, .sentinel, .sentinel, .sentinel, .sentinel, .sentinel, .sentinel, .sentinel, .sentinel, .sentinel, .sentinel, .sentinel, .sentinel, .sentinel, .sentinel, .sentinel, .sentinel, .sentinel], laidTests := true, laidLooks := .later }
def RecSaysCardSaid : Prop := Claim7.holds Tryd.pinned (.plain (OpenSpec.ofChange recSaysSpec)) recSaysCard

/-- THE TIED CARD OF 'breviarylaw10.RecOrders'. -/
def recOrdersCard : Claim7 := { stood := { row := recOrdersRow, standIns := [], harness := (true, "f4adb94a40477f873e103dc7e2785b6918a965062099c8ffce5a98939fa31039"), looks := true }, kinds := [], alts := [], laidByText := true, laidKinds := [.sentinel, .sentinel, .sentinel, .sentinel], laidTests := true, laidLooks := .later }
def RecOrdersCardSaid : Prop := Claim7.holds Tryd.pinned (.plain (OpenSpec.ofChange recOrdersSpec)) recOrdersCard

/-- THE TIED CARD OF 'breviarylaw10.RecRanges'. -/
def recRangesCard : Claim7 := { stood := { row := recRangesRow, standIns := [], harness := (true, "f4adb94a40477f873e103dc7e2785b6918a965062099c8ffce5a98939fa31039"), looks := true }, kinds := [], alts := [], laidByText := true, laidKinds := [.sentinel, .sentinel, .sentinel, .sentinel, .sentinel, .sentinel, .sentinel, .sentinel, .sentinel, .sentinel, .sentinel, .sentinel, .sentinel, .sentinel, .sentinel, .sentinel, .sentinel, .sentinel, .sentinel, .sentinel, .sentinel, .sentinel, .sentinel, .sentinel], laidTests := true, laidLooks := .later }
def RecRangesCardSaid : Prop := Claim7.holds Tryd.pinned (.plain (OpenSpec.ofChange recRangesSpec)) recRangesCard

/-- THE SECOND FORM's CARD OF 'breviarylaw10.RecSays'. -/
def recSaysUptoCard : Claim7 := { stood := { row := recSaysUptoRow, standIns := [], harness := (true, "f4adb94a40477f873e103dc7e2785b6918a965062099c8ffce5a98939fa31039"), looks := true }, kinds := [], alts := [], laidByText := true, laidKinds := [.sentinel, .sentinel, .sentinel, .sentinel, .sentinel, .sentinel, .sentinel, .sentinel, .sentinel, .sentinel, .sentinel, .sentinel, .sentinel, .sentinel, .sentinel, .sentinel, .sentinel, .sentinel, .sentinel, .sentinel, .sentinel, .sentinel, .sentinel, .sentinel], laidTests := true, laidLooks := .later }
def RecSaysUptoCardSaid : Prop := Claim7.holds Tryd.pinned (.plain (OpenSpec.upto recSaysSpec)) recSaysUptoCard

/-- THE SECOND FORM's CARD OF 'breviarylaw10.RecOrders'. -/
def recOrdersUptoCard : Claim7 := { stood := { row := recOrdersUptoRow, standIns := [], harness := (true, "f4adb94a40477f873e103dc7e2785b6918a965062099c8ffce5a98939fa31039"), looks := true }, kinds := [], alts := [], laidByText := true, laidKinds := [.sentinel, .sentinel, .sentinel, .sentinel], laidTests := true, laidLooks := .later }
def RecOrdersUptoCardSaid : Prop := Claim7.holds Tryd.pinned (.plain (OpenSpec.upto recOrdersSpec)) recOrdersUptoCard

/-- THE SECOND FORM's CARD OF 'breviarylaw10.RecRanges'. -/
def recRangesUptoCard : Claim7 := { stood := { row := recRangesUptoRow, standIns := [], harness := (true, "f4adb94a40477f873e103dc7e2785b6918a965062099c8ffce5a98939fa31039"), looks := true }, kinds := [], alts := [], laidByText := true, laidKinds := [.sentinel, .sentinel, .sentinel, .sentinel, .sentinel, .sentinel, .sentinel, .sentinel, .sentinel, .sentinel, .sentinel, .sentinel, .sentinel, .sentinel, .sentinel, .sentinel, .sentinel, .sentinel, .sentinel, .sentinel, .sentinel, .sentinel, .sentinel, .sentinel], laidTests := true, laidLooks := .later }
def RecRangesUptoCardSaid : Prop := Claim7.holds Tryd.pinned (.plain (OpenSpec.upto recRangesSpec)) recRangesUptoCard
end Rows
end Go.Proofs.YtkihoibcgafooaaDoor
