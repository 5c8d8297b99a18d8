/-
  DERIVED. GIVEN WITH THE SEED: THE CARDS: each row of YtjhdddccdffndaaDoorRows.lean that lists a variable, with what it lists TIED to the program's text (the seventh form; the later family's looks); each row that meets fmt, with fmt's text TOLD by the authors' own Lean function (tested against real Go, not proved from fmt's source: count such statements apart). THE CARD IS WHAT COUNTS. Prove the row's statement (the work); the ties are given (YtjhdddccdffndaaDoorTie.lean); close each card by the builder's one call (the guide's Derived/Test/ToyasCard.lean, 'card_holds'). Laid BY PROGRAM, IN A SANDBOX (cutbox-door.mjs). By AI agents, Wed Nov 11 2026. No macro, syntax, notation, axiom, sorry.
-/
import Derived.Test.YtjhdddccdffndaaDoorRows
import GoSem.ClaimSeven
namespace Go.Proofs.YtjhdddccdffndaaDoor
namespace Rows

/-- THE TIED CARD OF 'breviarylaw3.DevPlays'. -/
def devPlaysCard : Claim7 := { stood := { row := devPlaysRow, standIns := [], harness := (true, "efceb496906ff65457006d5ee3487d6721e0952a1b797f17ea05abc6c80110df"), looks := true }, kinds := [], alts := [], laidByText := true, laidKinds := [.sentinel, .sentinel, .sentinel, .sentinel, .sentinel, .sentinel, .sentinel, .sentinel, .sentinel, .sentinel, .sentinel, .sentinel, .sentinel, .sentinel, .sentinel, .sentinel, .sentinel, .sentinel, .sentinel, .sentinel, .sentinel, .sentinel, .sentinel, .sentinel], laidTests := true, laidLooks := .later }
def DevPlaysCardSaid : Prop := Claim7.holds Tryd.pinned (.plain (OpenSpec.ofChange devPlaysSpec)) devPlaysCard

/-- THE TIED CARD OF 'breviarylaw3.DevFaults'. -/
def devFaultsCard : Claim7 := { stood := { row := devFaultsRow, standIns := [], harness := (true, "efceb496906ff65457006d5ee3487d6721e0952a1b797f17ea05abc6c80110df"), looks := true }, kinds := [], alts := [], laidByText := true, laidKinds := [.sentinel, .sentinel, .sentinel, .sentinel, .sentinel], laidTests := true, laidLooks := .later }
def DevFaultsCardSaid : Prop := Claim7.holds Tryd.pinned (.plain (OpenSpec.ofChange devFaultsSpec)) devFaultsCard

/-- THE TIED CARD OF 'breviarylaw3.DevKeeps'. -/
def devKeepsCard : Claim7 := { stood := { row := devKeepsRow, standIns := [], harness := (true, "efceb496906ff65457006d5ee3487d6721e0952a1b797f17ea05abc6c80110df"), looks := true }, kinds := [], alts := [], laidByText := true, laidKinds := [.sentinel, .sentinel, .sentinel, .sentinel, .sentinel], laidTests := true, laidLooks := .later }
def DevKeepsCardSaid : Prop := Claim7.holds Tryd.pinned (.plain (OpenSpec.ofChange devKeepsSpec)) devKeepsCard

/-- THE TIED CARD OF 'breviarylaw3.DevArms'. -/
def devArmsCard : Claim7 := { stood := { row := devArmsRow, standIns := [], harness := (true, "efceb496906ff65457006d5ee3487d6721e0952a1b797f17ea05abc6c80110df"), looks := true }, kinds := [], alts := [], laidByText := true, laidKinds := [.sentinel, .sentinel, .sentinel, .sentinel, .sentinel, .sentinel, .sentinel, .sentinel, .sentinel, .sentinel, .sentinel, .sentinel, .sentinel, .sentinel, .sentinel, .sentinel, .sentinel, .sentinel, .sentinel, .sentinel, .sentinel, .sentinel, .sentinel, .sentinel], laidTests := true, laidLooks := .later }
def DevArmsCardSaid : Prop := Claim7.holds Tryd.pinned (.plain (OpenSpec.ofChange devArmsSpec)) devArmsCard

/-- THE TIED CARD OF 'breviarylaw3.DevTwins'. -/
def devTwinsCard : Claim7 := { stood := { row := devTwinsRow, standIns := [], harness := (true, "efceb496906ff65457006d5ee3487d6721e0952a1b797f17ea05abc6c80110df"), looks := true }, kinds := [], alts := [], laidByText := true, laidKinds := [.sentinel, .sentinel, .sentinel, .sentinel, .sentinel], laidTests := true, laidLooks := .later }
def DevTwinsCardSaid : Prop := Claim7.holds Tryd.pinned (.plain (OpenSpec.ofChange devTwinsSpec)) devTwinsCard

/-- THE TIED CARD OF 'breviarylaw3.DevShapes'. -/
def devShapesCard : Claim7 := { stood := { row := devShapesRow, standIns := [], harness := (true, "efceb496906ff65457006d5ee3487d6721e0952a1b797f17ea05abc6c80110df"), looks := true }, kinds := [], alts := [], laidByText := true, laidKinds := [.sentinel, .sentinel, .sentinel, .sentinel, .sentinel, .sentinel, .sentinel, .sentinel, .sentinel, .sentinel, .sentinel, .sentinel, .sentinel, .sentinel, .sentinel, .sentinel, .sentinel, .sentinel, .sentinel, .sentinel, .sentinel, .sentinel, .sentinel, .sentinel], laidTests := true, laidLooks := .later }
def DevShapesCardSaid : Prop := Claim7.holds Tryd.pinned (.plain (OpenSpec.ofChange devShapesSpec)) devShapesCard

/-- THE SECOND FORM's CARD OF 'breviarylaw3.DevPlays'. -/
def devPlaysUptoCard : Claim7 := { stood := { row := devPlaysUptoRow, standIns := [], harness := (true, "efceb496906ff65457006d5ee3487d6721e0952a1b797f17ea05abc6c80110df"), looks := true }, kinds := [], alts := [], laidByText := true, laidKinds := [.sentinel, .sentinel, .sentinel, .sentinel, .sentinel, .sentinel, .sentinel, .sentinel, .sentinel, .sentinel, .sentinel, .sentinel, .sentinel, .sentinel, .sentinel, .sentinel, .sentinel, .sentinel, .sentinel, .sentinel, .sentinel, .sentinel, .sentinel, .sentinel], laidTests := true, laidLooks := .later }
def DevPlaysUptoCardSaid : Prop := Claim7.holds Tryd.pinned (.plain (OpenSpec.upto devPlaysSpec)) devPlaysUptoCard

/-- THE SECOND FORM's CARD OF 'breviarylaw3.DevFaults'. -/
def devFaultsUptoCard : Claim7 := { stood := { row := devFaultsUptoRow, standIns := [], harness := (true, "efceb496906ff65457006d5ee3487d6721e0952a1b797f17ea05abc6c80110df"), looks := true }, kinds := [], alts := [], laidByText := true, laidKinds := [.sentinel, .sentinel, .sentinel, .sentinel, .sentinel], laidTests := true, laidLooks := .later }
def DevFaultsUptoCardSaid : Prop := Claim7.holds Tryd.pinned (.plain (OpenSpec.upto devFaultsSpec)) devFaultsUptoCard

/-- THE SECOND FORM's CARD OF 'breviarylaw3.DevKeeps'. -/
def devKeepsUptoCard : Claim7 := { stood := { row := devKeepsUptoRow, standIns := [], harness := (true, "efceb496906ff65457006d5ee3487d6721e0952a1b797f17ea05abc6c80110df"), looks := true }, kinds := [], alts := [], laidByText := true, laidKinds := [.sentinel, .sentinel, .sentinel, .sentinel, .sentinel], laidTests := true, laidLooks := .later }
def DevKeepsUptoCardSaid : Prop := Claim7.holds Tryd.pinned (.plain (OpenSpec.upto devKeepsSpec)) devKeepsUptoCard

/-- THE SECOND FORM's CARD OF 'breviarylaw3.DevArms'. -/
def devArmsUptoCard : Claim7 := { stood := { row := devArmsUptoRow, standIns := [], harness := (true, "efceb496906ff65457006d5ee3487d6721e0952a1b797f17ea05abc6c80110df"), looks := true }, kinds := [], alts := [], laidByText := true, laidKinds := [.sentinel, .sentinel, .sentinel, .sentinel, .sentinel, .sentinel, .sentinel, .sentinel, .sentinel, .sentinel, .sentinel, .sentinel, .sentinel, .sentinel, .sentinel, .sentinel, .sentinel, .sentinel, .sentinel, .sentinel, .sentinel, .sentinel, .sentinel, .sentinel], laidTests := true, laidLooks := .later }
def DevArmsUptoCardSaid : Prop := Claim7.holds Tryd.pinned (.plain (OpenSpec.upto devArmsSpec)) devArmsUptoCard

/-- THE SECOND FORM's CARD OF 'breviarylaw3.DevTwins'. -/
def devTwinsUptoCard : Claim7 := { stood := { row := devTwinsUptoRow, standIns := [], harness := (true, "efceb496906ff65457006d5ee3487d6721e0952a1b797f17ea05abc6c80110df"), looks := true }, kinds := [], alts := [], laidByText := true, laidKinds := [.sentinel, .sentinel, .sentinel, .sentinel, .sentinel], laidTests := true, laidLooks := .later }
def DevTwinsUptoCardSaid : Prop := Claim7.holds Tryd.pinned (.plain (OpenSpec.upto devTwinsSpec)) devTwinsUptoCard

/-- THE SECOND FORM's CARD OF 'breviarylaw3.DevShapes'. -/
def devShapesUptoCard : Claim7 := { stood := { row := devShapesUptoRow, standIns := [], harness := (true, "efceb496906ff65457006d5ee3487d6721e0952a1b797f17ea05abc6c80110df"), looks := true }, kinds := [], alts := [], laidByText := true, laidKinds := [.sentinel, .sentinel, .sentinel, .sentinel, .sentinel, .sentinel, .sentinel, .sentinel, .sentinel, .sentinel, .sentinel, .sentinel, .sentinel, .sentinel, .sentinel, .sentinel, .sentinel, .sentinel, .sentinel, .sentinel, .sentinel, .sentinel, .sentinel, .sentinel], laidTests := true, laidLooks := .later }
def DevShapesUptoCardSaid : Prop := Claim7.holds Tryd.pinned (.plain (OpenSpec.upto devShapesSpec)) devShapesUptoCard
end Rows
end Go.Proofs.YtjhdddccdffndaaDoor
