/-
  DERIVED. GIVEN WITH THE SEED: THE CARDS: each row of YtomhmodgfldlpaaDoorRows.lean that lists a variable, with what it lists TIED to the program's text (the seventh form; the later family's looks); each row that meets fmt, with fmt's text TOLD by the authors' own Lean function (tested against real Go, not proved from fmt's source: count such statements apart). THE CARD IS WHAT COUNTS. Prove the row's statement (the work); the ties are given (YtomhmodgfldlpaaDoorTie.lean); close each card by the builder's one call (the guide's Derived/Test/ToyasCard.lean, 'card_holds'). Laid BY PROGRAM, IN A SANDBOX (cutbox-door.mjs). By AI agents, Wed Nov 11 2026. No macro, syntax, notation, axiom, sorry.
-/
import Derived.Test.YtomhmodgfldlpaaDoorRows
import GoSem.ClaimSeven
namespace Go.Proofs.YtomhmodgfldlpaaDoor
namespace Rows

/-- THE TIED CARD OF 'breviarylaw5.PairReads'. -/
def pairReadsCard : Claim7 := { stood := { row := pairReadsRow, standIns := [], harness := (true, "830f2263ccf9e94113cb4a4b658f7de171f7e9ee2a9512e50e0046b401acf391"), looks := true }, kinds := [], alts := [], laidByText := true, laidKinds := [.sentinel, .sentinel, .sentinel, .sentinel, .sentinel, .sentinel, .sentinel, .sentinel, .sentinel, .sentinel, .sentinel, .sentinel, .sentinel, .sentinel, .sentinel, .sentinel, .sentinel, .sentinel, .sentinel, .sentinel, .sentinel, .sentinel, .sentinel, .sentinel], laidTests := true, laidLooks := .later }
def PairReadsCardSaid : Prop := Claim7.holds Tryd.pinned (.plain (OpenSpec.ofChange pairReadsSpec)) pairReadsCard

/-- THE TIED CARD OF 'breviarylaw5.PairHeals'. -/
def pairHealsCard : Claim7 := { stood := { row := pairHealsRow, standIns := [], harness := (true, "830f2263ccf9e94113cb4a4b658f7de171f7e9ee2a9512e50e0046b401acf391"), looks := true }, kinds := [], alts := [], laidByText := true, laidKinds := [.sentinel, .sentinel, .sentinel, .sentinel, .sentinel], laidTests := true, laidLooks := .later }
def PairHealsCardSaid : Prop := Claim7.holds Tryd.pinned (.plain (OpenSpec.ofChange pairHealsSpec)) pairHealsCard

/-- THE TIED CARD OF 'breviarylaw5.PairLost'. -/
def pairLostCard : Claim7 := { stood := { row := pairLostRow, standIns := [], harness := (true, "830f2263ccf9e94113cb4a4b658f7de171f7e9ee2a9512e50e0046b401acf391"), looks := true }, kinds := [], alts := [], laidByText := true, laidKinds := [.sentinel, .sentinel, .sentinel, .sentinel, .sentinel, .sentinel, .sentinel, .sentinel, .sentinel, .sentinel, .sentinel, .sentinel, .sentinel, .sentinel, .sentinel, .sentinel, .sentinel, .sentinel, .sentinel, .sentinel, .sentinel, .sentinel, .sentinel, .sentinel], laidTests := true, laidLooks := .later }
def PairLostCardSaid : Prop := Claim7.holds Tryd.pinned (.plain (OpenSpec.ofChange pairLostSpec)) pairLostCard

/-- THE TIED CARD OF 'breviarylaw5.PairApart'. -/
def pairApartCard : Claim7 := { stood := { row := pairApartRow, standIns := [], harness := (true, "830f2263ccf9e94113cb4a4b658f7de171f7e9ee2a9512e50e0046b401acf391"), looks := true }, kinds := [], alts := [], laidByText := true, laidKinds := [.sentinel, .sentinel, .sentinel, .sentinel, .sentinel], laidTests := true, laidLooks := .later }
def PairApartCardSaid : Prop := Claim7.holds Tryd.pinned (.plain (OpenSpec.ofChange pairApartSpec)) pairApartCard

/-- THE TIED CARD OF 'breviarylaw5.PairFalls'. -/
def pairFallsCard : Claim7 := { stood := { row := pairFallsRow, standIns := [], harness := (true, "830f2263ccf9e94113cb4a4b658f7de171f7e9ee2a9512e50e0046b401acf391"), looks := true }, kinds := [], alts := [], laidByText := true, laidKinds := [.sentinel, .sentinel, .sentinel, .sentinel, .sentinel], laidTests := true, laidLooks := .later }
def PairFallsCardSaid : Prop := Claim7.holds Tryd.pinned (.plain (OpenSpec.ofChange pairFallsSpec)) pairFallsCard

/-- THE SECOND FORM's CARD OF 'breviarylaw5.PairReads'. -/
def pairReadsUptoCard : Claim7 := { stood := { row := pairReadsUptoRow, standIns := [], harness := (true, "830f2263ccf9e94113cb4a4b658f7de171f7e9ee2a9512e50e0046b401acf391"), looks := true }, kinds := [], alts := [], laidByText := true, laidKinds := [.sentinel, .sentinel, .sentinel, .sentinel, .sentinel, .sentinel, .sentinel, .sentinel, .sentinel, .sentinel, .sentinel, .sentinel, .sentinel, .sentinel, .sentinel, .sentinel, .sentinel, .sentinel, .sentinel, .sentinel, .sentinel, .sentinel, .sentinel, .sentinel], laidTests := true, laidLooks := .later }
def PairReadsUptoCardSaid : Prop := Claim7.holds Tryd.pinned (.plain (OpenSpec.upto pairReadsSpec)) pairReadsUptoCard

/-- THE SECOND FORM's CARD OF 'breviarylaw5.PairHeals'. -/
def pairHealsUptoCard : Claim7 := { stood := { row := pairHealsUptoRow, standIns := [], harness := (true, "830f2263ccf9e94113cb4a4b658f7de171f7e9ee2a9512e50e0046b401acf391"), looks := true }, kinds := [], alts := [], laidByText := true, laidKinds := [.sentinel, .sentinel, .sentinel, .sentinel, .sentinel], laidTests := true, laidLooks := .later }
def PairHealsUptoCardSaid : Prop := Claim7.holds Tryd.pinned (.plain (OpenSpec.upto pairHealsSpec)) pairHealsUptoCard

/-- THE SECOND FORM's CARD OF 'breviarylaw5.PairLost'. -/
def pairLostUptoCard : Claim7 := { stood := { row := pairLostUptoRow, standIns := [], harness := (true, "830f2263ccf9e94113cb4a4b658f7de171f7e9ee2a9512e50e0046b401acf391"), looks := true }, kinds := [], alts := [], laidByText := true, laidKinds := [.sentinel, .sentinel, .sentinel, .sentinel, .sentinel, .sentinel, .sentinel, .sentinel, .sentinel, .sentinel, .sentinel, .sentinel, .sentinel, .sentinel, .sentinel, .sentinel, .sentinel, .sentinel, .sentinel, .sentinel, .sentinel, .sentinel, .sentinel, .sentinel], laidTests := true, laidLooks := .later }
def PairLostUptoCardSaid : Prop := Claim7.holds Tryd.pinned (.plain (OpenSpec.upto pairLostSpec)) pairLostUptoCard

/-- THE SECOND FORM's CARD OF 'breviarylaw5.PairApart'. -/
def pairApartUptoCard : Claim7 := { stood := { row := pairApartUptoRow, standIns := [], harness := (true, "830f2263ccf9e94113cb4a4b658f7de171f7e9ee2a9512e50e0046b401acf391"), looks := true }, kinds := [], alts := [], laidByText := true, laidKinds := [.sentinel, .sentinel, .sentinel, .sentinel, .sentinel], laidTests := true, laidLooks := .later }
def PairApartUptoCardSaid : Prop := Claim7.holds Tryd.pinned (.plain (OpenSpec.upto pairApartSpec)) pairApartUptoCard

/-- THE SECOND FORM's CARD OF 'breviarylaw5.PairFalls'. -/
def pairFallsUptoCard : Claim7 := { stood := { row := pairFallsUptoRow, standIns := [], harness := (true, "830f2263ccf9e94113cb4a4b658f7de171f7e9ee2a9512e50e0046b401acf391"), looks := true }, kinds := [], alts := [], laidByText := true, laidKinds := [.sentinel, .sentinel, .sentinel, .sentinel, .sentinel], laidTests := true, laidLooks := .later }
def PairFallsUptoCardSaid : Prop := Claim7.holds Tryd.pinned (.plain (OpenSpec.upto pairFallsSpec)) pairFallsUptoCard
end Rows
end Go.Proofs.YtomhmodgfldlpaaDoor
