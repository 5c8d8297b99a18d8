/-
  DERIVED. GIVEN WITH THE SEED: THE CARDS: each row of YtfdabbpfphnbhaaDoorRows.lean that lists a variable, with what it lists TIED to the program's text (the seventh form; the later family's looks); each row that meets fmt, with fmt's text TOLD by the authors' own Lean function (tested against real Go, not proved from fmt's source: count such statements apart). THE CARD IS WHAT COUNTS. Prove the row's statement (the work); the ties are given (YtfdabbpfphnbhaaDoorTie.lean); close each card by the builder's one call (the guide's Derived/Test/ToyasCard.lean, 'card_holds'). Laid BY PROGRAM, IN A SANDBOX (cutbox-door.mjs). By AI agents, Wed Nov 11 2026. No macro, syntax, notation, axiom, sorry.
-/
import Derived.Test.YtfdabbpfphnbhaaDoorRows
import GoSem.ClaimSeven
namespace Go.Proofs.YtfdabbpfphnbhaaDoor
namespace Rows

/-- THE TIED CARD OF 'breviarylaw9.BlobPlays'. -/
def blobPlaysCard : Claim7 := { stood := { row := blobPlaysRow, standIns := [], harness := (true, "3bb159c4f8f9ab83f40bfb298acb47c31b8ce4da29d9cad31e695435a4a563ca"), looks := true }, kinds := [], alts := [], laidByText := true, laidKinds := [.sentinel, .sentinel, .sentinel, .sentinel, .sentinel, .sentinel, .sentinel, .sentinel, .sentinel, .sentinel, .sentinel, .sentinel, .sentinel, .sentinel, .sentinel, .sentinel, .sentinel, .sentinel, .sentinel, .sentinel, .sentinel, .sentinel, .sentinel, .sentinel], laidTests := true, laidLooks := .later }
def BlobPlaysCardSaid : Prop := Claim7.holds Tryd.pinned (.plain (OpenSpec.ofChange blobPlaysSpec)) blobPlaysCard

/-- THE TIED CARD OF 'breviarylaw9.BlobHeld'. -/
def blobHeldCard : Claim7 := { stood := { row := blobHeldRow, standIns := [], harness := (true, "3bb159c4f8f9ab83f40bfb298acb47c31b8ce4da29d9cad31e695435a4a563ca"), looks := true }, kinds := [], alts := [], laidByText := true, laidKinds := [.sentinel, .sentinel, .sentinel, .sentinel, .sentinel, .sentinel, .sentinel, .sentinel, .sentinel, .sentinel, .sentinel, .sentinel, .sentinel, .sentinel, .sentinel, .sentinel, .sentinel, .sentinel, .sentinel, .sentinel, .sentinel, .sentinel, .sentinel, .sentinel], laidTests := true, laidLooks := .later }
def BlobHeldCardSaid : Prop := Claim7.holds Tryd.pinned (.plain (OpenSpec.ofChange blobHeldSpec)) blobHeldCard

/-- THE TIED CARD OF 'breviarylaw9.BlobTells'. -/
def blobTellsCard : Claim7 := { stood := { row := blobTellsRow, standIns := [], harness := (true, "3bb159c4f8f9ab83f40bfb298acb47c31b8ce4da29d9cad31e695435a4a563ca"), looks := true }, kinds := [], alts := [], laidByText := true, laidKinds := [.sentinel, .sentinel, .sentinel, .sentinel, .sentinel, .sentinel, .sentinel, .sentinel, .sentinel, .sentinel, .sentinel, .sentinel, .sentinel, .sentinel, .sentinel, .sentinel, .sentinel, .sentinel, .sentinel, .sentinel, .sentinel, .sentinel, .sentinel, .sentinel], laidTests := true, laidLooks := .later }
def BlobTellsCardSaid : Prop := Claim7.holds Tryd.pinned (.plain (OpenSpec.ofChange blobTellsSpec)) blobTellsCard

/-- THE TIED CARD OF 'breviarylaw9.BlobOpens'. -/
def blobOpensCard : Claim7 := { stood := { row := blobOpensRow, standIns := [], harness := (true, "3bb159c4f8f9ab83f40bfb298acb47c31b8ce4da29d9cad31e695435a4a563ca"), looks := true }, kinds := [], alts := [], laidByText := true, laidKinds := [.sentinel, .sentinel, .sentinel, .sentinel, .sentinel, .sentinel, .sentinel, .sentinel, .sentinel, .sentinel, .sentinel, .sentinel, .sentinel, .sentinel, .sentinel, .sentinel, .sentinel, .sentinel, .sentinel, .sentinel, .sentinel, .sentinel, .sentinel, .sentinel], laidTests := true, laidLooks := .later }
def BlobOpensCardSaid : Prop := Claim7.holds Tryd.pinned (.plain (OpenSpec.ofChange blobOpensSpec)) blobOpensCard

/-- THE TIED CARD OF 'breviarylaw9.BlobRound'. -/
def blobRoundCard : Claim7 := { stood := { row := blobRoundRow, standIns := [], harness := (true, "3bb159c4f8f9ab83f40bfb298acb47c31b8ce4da29d9cad31e695435a4a563ca"), looks := true }, kinds := [], alts := [], laidByText := true, laidKinds := [.sentinel, .sentinel, .sentinel, .sentinel, .sentinel, .sentinel, .sentinel, .sentinel, .sentinel, .sentinel, .sentinel, .sentinel, .sentinel, .sentinel, .sentinel, .sentinel, .sentinel, .sentinel, .sentinel, .sentinel, .sentinel, .sentinel, .sentinel, .sentinel], laidTests := true, laidLooks := .later }
def BlobRoundCardSaid : Prop := Claim7.holds Tryd.pinned (.plain (OpenSpec.ofChange blobRoundSpec)) blobRoundCard

/-- THE SECOND FORM's CARD OF 'breviarylaw9.BlobPlays'. -/
def blobPlaysUptoCard : Claim7 := { stood := { row := blobPlaysUptoRow, standIns := [], harness := (true, "3bb159c4f8f9ab83f40bfb298acb47c31b8ce4da29d9cad31e695435a4a563ca"), looks := true }, kinds := [], alts := [], laidByText := true, laidKinds := [.sentinel, .sentinel, .sentinel, .sentinel, .sentinel, .sentinel, .sentinel, .sentinel, .sentinel, .sentinel, .sentinel, .sentinel, .sentinel, .sentinel, .sentinel, .sentinel, .sentinel, .sentinel, .sentinel, .sentinel, .sentinel, .sentinel, .sentinel, .sentinel], laidTests := true, laidLooks := .later }
def BlobPlaysUptoCardSaid : Prop := Claim7.holds Tryd.pinned (.plain (OpenSpec.upto blobPlaysSpec)) blobPlaysUptoCard

/-- THE SECOND FORM's CARD OF 'breviarylaw9.BlobHeld'. -/
def blobHeldUptoCard : Claim7 := { stood := { row := blobHeldUptoRow, standIns := [], harness := (true, "3bb159c4f8f9ab83f40bfb298acb47c31b8ce4da29d9cad31e695435a4a563ca"), looks := true }, kinds := [], alts := [], laidByText := true, laidKinds := [.sentinel, .sentinel, .sentinel, .sentinel, .sentinel, .sentinel, .sentinel, .sentinel, .sentinel, .sentinel, .sentinel, .sentinel, .sentinel, .sentinel, .sentinel, .sentinel, .sentinel, .sentinel, .sentinel, .sentinel, .sentinel, .sentinel, .sentinel, .sentinel], laidTests := true, laidLooks := .later }
def BlobHeldUptoCardSaid : Prop := Claim7.holds Tryd.pinned (.plain (OpenSpec.upto blobHeldSpec)) blobHeldUptoCard

/-- THE SECOND FORM's CARD OF 'breviarylaw9.BlobTells'. -/
def blobTellsUptoCard : Claim7 := { stood := { row := blobTellsUptoRow, standIns := [], harness := (true, "3bb159c4f8f9ab83f40bfb298acb47c31b8ce4da29d9cad31e695435a4a563ca"), looks := true }, kinds := [], alts := [], laidByText := true, laidKinds := [.sentinel, .sentinel, .sentinel, .sentinel, .sentinel, .sentinel, .sentinel, .sentinel, .sentinel, .sentinel, .sentinel, .sentinel, .sentinel, .sentinel, .sentinel, .sentinel, .sentinel, .sentinel, .sentinel, .sentinel, .sentinel, .sentinel, .sentinel, .sentinel], laidTests := true, laidLooks := .later }
def BlobTellsUptoCardSaid : Prop := Claim7.holds Tryd.pinned (.plain (OpenSpec.upto blobTellsSpec)) blobTellsUptoCard

/-- THE SECOND FORM's CARD OF 'breviarylaw9.BlobOpens'. -/
def blobOpensUptoCard : Claim7 := { stood := { row := blobOpensUptoRow, standIns := [], harness := (true, "3bb159c4f8f9ab83f40bfb298acb47c31b8ce4da29d9cad31e695435a4a563ca"), looks := true }, kinds := [], alts := [], laidByText := true, laidKinds := [.sentinel, .sentinel, .sentinel, .sentinel, .sentinel, .sentinel, .sentinel, .sentinel, .sentinel, .sentinel, .sentinel, .sentinel, .sentinel, .sentinel, .sentinel, .sentinel, .sentinel, .sentinel, .sentinel, .sentinel, .sentinel, .sentinel, .sentinel, .sentinel], laidTests := true, laidLooks := .later }
def BlobOpensUptoCardSaid : Prop := Claim7.holds Tryd.pinned (.plain (OpenSpec.upto blobOpensSpec)) blobOpensUptoCard

/-- THE SECOND FORM's CARD OF 'breviarylaw9.BlobRound'. -/
def blobRoundUptoCard : Claim7 := { stood := { row := blobRoundUptoRow, standIns := [], harness := (true, "3bb159c4f8f9ab83f40bfb298acb47c31b8ce4da29d9cad31e695435a4a563ca"), looks := true }, kinds := [], alts := [], laidByText := true, laidKinds := [.sentinel, .sentinel, .sentinel, .sentinel, .sentinel, .sentinel, .sentinel, .sentinel, .sentinel, .sentinel, .sentinel, .sentinel, .sentinel, .sentinel, .sentinel, .sentinel, .sentinel, .sentinel, .sentinel, .sentinel, .sentinel, .sentinel, .sentinel, .sentinel], laidTests := true, laidLooks := .later }
def BlobRoundUptoCardSaid : Prop := Claim7.holds Tryd.pinned (.plain (OpenSpec.upto blobRoundSpec)) blobRoundUptoCard
end Rows
end Go.Proofs.YtfdabbpfphnbhaaDoor
