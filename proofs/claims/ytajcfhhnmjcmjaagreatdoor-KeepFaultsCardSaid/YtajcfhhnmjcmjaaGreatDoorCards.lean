/-
  DERIVED. GIVEN WITH THE SEED: THE CARDS: each row of YtajcfhhnmjcmjaaGreatDoorRows.lean that lists a variable, with what it lists TIED to the program's text (the seventh form; the later family's looks); each row that meets fmt, with fmt's text TOLD by the authors' own Lean function (tested against real Go, not proved from fmt's source: count such statements apart). THE CARD IS WHAT COUNTS. Prove the row's statement (the work); the ties are given (YtajcfhhnmjcmjaaGreatDoorTie.lean); close each card by the builder's one call (the guide's Derived/Test/ToyasCard.lean, 'card_holds'). Laid BY PROGRAM, IN A SANDBOX (cutbox-door.mjs). By AI agents, Wed Nov 11 2026. No macro, syntax, notation, axiom, sorry.
-/
import Derived.Test.YtajcfhhnmjcmjaaGreatDoorRows
import GoSem.ClaimSeven
namespace Go.Proofs.YtajcfhhnmjcmjaaGreatDoor
namespace Rows

/-- THE TIED CARD OF 'breviarylaw8.KeepRoom'. -/
def keepRoomCard : Claim7 := { stood := { row := keepRoomRow, standIns := [], harness := (true, "a7959ff9a11b926a8ba642eea8a1acaffbd6f43d50eee207e9946c6a3ae1543d"), looks := true }, kinds := [], alts := [], laidByText := true, laidKinds := [.sentinel, .sentinel, .sentinel, .sentinel, .sentinel, .sentinel, .sentinel, .sentinel], laidTests := true, laidLooks := .later }
def KeepRoomCardSaid : Prop := Claim7.holds Tryz.pinned (.plain (OpenSpec.ofChange keepRoomSpec)) keepRoomCard

/-- THE TIED CARD OF 'breviarylaw8.KeepFaults'. -/
def keepFaultsCard : Claim7 := { stood := { row := keepFaultsRow, standIns := [], harness := (true, "a7959ff9a11b926a8ba642eea8a1acaffbd6f43d50eee207e9946c6a3ae1543d"), looks := true }, kinds := [], alts := [], laidByText := true, laidKinds := [.sentinel, .sentinel, .sentinel, .sentinel, .sentinel, .sentinel, .sentinel, .sentinel], laidTests := true, laidLooks := .later }
def KeepFaultsCardSaid : Prop := Claim7.holds Tryz.pinned (.plain (OpenSpec.ofChange keepFaultsSpec)) keepFaultsCard

/-- THE SECOND FORM's CARD OF 'breviarylaw8.KeepRoom'. -/
def keepRoomUptoCard : Claim7 := { stood := { row := keepRoomUptoRow, standIns := [], harness := (true, "a7959ff9a11b926a8ba642eea8a1acaffbd6f43d50eee207e9946c6a3ae1543d"), looks := true }, kinds := [], alts := [], laidByText := true, laidKinds := [.sentinel, .sentinel, .sentinel, .sentinel, .sentinel, .sentinel, .sentinel, .sentinel], laidTests := true, laidLooks := .later }
def KeepRoomUptoCardSaid : Prop := Claim7.holds Tryz.pinned (.plain (OpenSpec.upto keepRoomSpec)) keepRoomUptoCard

/-- THE SECOND FORM's CARD OF 'breviarylaw8.KeepFaults'. -/
def keepFaultsUptoCard : Claim7 := { stood := { row := keepFaultsUptoRow, standIns := [], harness := (true, "a7959ff9a11b926a8ba642eea8a1acaffbd6f43d50eee207e9946c6a3ae1543d"), looks := true }, kinds := [], alts := [], laidByText := true, laidKinds := [.sentinel, .sentinel, .sentinel, .sentinel, .sentinel, .sentinel, .sentinel, .sentinel], laidTests := true, laidLooks := .later }
def KeepFaultsUptoCardSaid : Prop := Claim7.holds Tryz.pinned (.plain (OpenSpec.upto keepFaultsSpec)) keepFaultsUptoCard
end Rows
end Go.Proofs.YtajcfhhnmjcmjaaGreatDoor
