/-
  DERIVED. GIVEN WITH THE SEED: THE CARDS: each row of YtkhdgacjgccnnaaGreatDoorRows.lean that lists a variable, with what it lists TIED to the program's text (the seventh form; the later family's looks); each row that meets fmt, with fmt's text TOLD by the authors' own Lean function (tested against real Go, not proved from fmt's source: count such statements apart). THE CARD IS WHAT COUNTS. Prove the row's statement (the work); the ties are given (YtkhdgacjgccnnaaGreatDoorTie.lean); close each card by the builder's one call (the guide's Derived/Test/ToyasCard.lean, 'card_holds'). Laid BY PROGRAM, IN A SANDBOX (cutbox-door.mjs). By AI agents, Wed Nov 11 2026. No macro, syntax, notation, axiom, sorry.
-/
import Derived.Test.YtkhdgacjgccnnaaGreatDoorRows
import GoSem.ClaimSeven
namespace Go.Proofs.YtkhdgacjgccnnaaGreatDoor
namespace Rows

/-- THE TIED CARD OF 'breviarylaw8.KeepRoom'. -/
def keepRoomCard : Claim7 := { stood := { row := keepRoomRow, standIns := [], harness := (true, "4fcbe5820658732e49114c200298861dd77250b6805a82780c921c66976d2224"), looks := true }, kinds := [], alts := [], laidByText := true, laidKinds := [.sentinel, .sentinel, .sentinel, .sentinel, .sentinel, .sentinel, .sentinel, .sentinel], laidTests := true, laidLooks := .later }
def KeepRoomCardSaid : Prop := Claim7.holds Tryz.pinned (.plain (OpenSpec.ofChange keepRoomSpec)) keepRoomCard

/-- THE SECOND FORM's CARD OF 'breviarylaw8.KeepRoom'. -/
def keepRoomUptoCard : Claim7 := { stood := { row := keepRoomUptoRow, standIns := [], harness := (true, "4fcbe5820658732e49114c200298861dd77250b6805a82780c921c66976d2224"), looks := true }, kinds := [], alts := [], laidByText := true, laidKinds := [.sentinel, .sentinel, .sentinel, .sentinel, .sentinel, .sentinel, .sentinel, .sentinel], laidTests := true, laidLooks := .later }
def KeepRoomUptoCardSaid : Prop := Claim7.holds Tryz.pinned (.plain (OpenSpec.upto keepRoomSpec)) keepRoomUptoCard
end Rows
end Go.Proofs.YtkhdgacjgccnnaaGreatDoor
