/-
  NARROWER THAN 'FOR EVERY INPUT', by the rows' own cells (each row's printed sentence says how): KeepRoom: laid.
  DERIVED. THE GIVEN ROWS OF THIS SEAT. 1 by the template 'for every input the law returns true; each argument reads behind the call as it read before'; 0 by the template 'total and deterministic' (their statements: YtkhdgacjgccnnaaGreatDoorTotals.lean).
  GIVEN WITH THE SEED: the statements are not yours to turn. If you find one false, say at which input.
  Laid BY PROGRAM, IN A SANDBOX (cutbox-rows.mjs): the forced cells as the released guide's own fill.sh prints them over the translation 530825d13ab51a76… (all of the seat's roots in one cut). By AI agents, Wed Nov 11 2026. No macro, syntax, notation, axiom, sorry.
-/
import Derived.Test.YtkhdgacjgccnnaaGreatDoorChecked
import GoSem.Claim
import GoSem.ClaimJoined
import GoSem.ClaimMapViews
import Derived.JoinedTies
import Derived.KernelRfl
namespace Go.Proofs.YtkhdgacjgccnnaaGreatDoor
/- THE CELL 'sum', in the pinned program and in every row, IS THE sha256 OF THE DUMP (.gsa) THAT YtkhdgacjgccnnaaGreatDoorProg.lean LOADS. Nothing in Lean hashes anything: it is a label: what it is worth is what the hold of that sum in a sandbox is worth. -/
noncomputable def Tryz.pinned : Pinned := { name := "ytkhdgacjgccnnaagreatdoor", sum := "530825d13ab51a76c4668f228699c76915b1fce4655b6ebe25183b1717d939d9", checked := Tryz.checked }
namespace Rows
def none {H : Type} : Left H := { results := [], args := [] }

/- WHAT THE LISTED PACKAGE-LEVEL VARIABLES READ AS WHEN THE CALL BEGINS. Each datum BY PROGRAM (the guide's laid-datum.mjs) off the statement by which the dump's own 'gosem.cut.vars' lays the variable. In a bare row this is a premise. The card (YtkhdgacjgccnnaaGreatDoorCards.lean) ties it to the program's text. -/
def laid_breviary_api_ErrEnd {H : Type} : DataW H := .iface "*errors.errorString" (.ptr (.agg [.lit (.string [105, 116, 32, 101, 110, 100, 115, 32, 116, 111, 111, 32, 101, 97, 114, 108, 121])]))
def laid_breviary_api_ErrShape {H : Type} : DataW H := .iface "*errors.errorString" (.ptr (.agg [.lit (.string [110, 111, 116, 32, 97, 115, 32, 105, 116, 32, 104, 97, 115, 32, 116, 111, 32, 98, 101])]))
def laid_breviary_api_ErrRange {H : Type} : DataW H := .iface "*errors.errorString" (.ptr (.agg [.lit (.string [97, 32, 110, 117, 109, 98, 101, 114, 32, 111, 117, 116, 32, 111, 102, 32, 105, 116, 115, 32, 114, 97, 110, 103, 101])]))
def laid_breviary_api_ErrMany {H : Type} : DataW H := .iface "*errors.errorString" (.ptr (.agg [.lit (.string [116, 111, 111, 32, 109, 97, 110, 121])]))
def laid_breviary_api_ErrFull {H : Type} : DataW H := .iface "*errors.errorString" (.ptr (.agg [.lit (.string [116, 104, 101, 114, 101, 32, 105, 115, 32, 110, 111, 32, 114, 111, 111, 109])]))
def laid_breviary_api_ErrCrash {H : Type} : DataW H := .iface "*errors.errorString" (.ptr (.agg [.lit (.string [105, 116, 32, 105, 115, 32, 100, 111, 119, 110])]))
def laid_breviary_api_ErrIO {H : Type} : DataW H := .iface "*errors.errorString" (.ptr (.agg [.lit (.string [105, 116, 32, 99, 97, 110, 39, 116, 32, 98, 101, 32, 114, 101, 97, 100])]))
def laid_breviary_api_ErrNoEnt {H : Type} : DataW H := .iface "*errors.errorString" (.ptr (.agg [.lit (.string [110, 111, 32, 115, 117, 99, 104, 32, 102, 105, 108, 101])]))

/-- 'breviarylaw8.KeepRoom': WHATEVER THE INPUT: true; the input reads as it did. -/
def keepRoomSpec : ChangeSpec := { name := "keepRoom", fn := fun _ => fun
  | [d1, d2, d3] => { results := [.lit (.bool true)], args := [d1, d2, d3] }
  | _ => none }
def keepRoomRow : OpenClaim := { program := "ytkhdgacjgccnnaagreatdoor", sum := "530825d13ab51a76c4668f228699c76915b1fce4655b6ebe25183b1717d939d9", func := "breviary/breviarylaw8.KeepRoom", spec := "keepRoom", inPlace := ["internal/bytealg.abigen_runtime_cmpstring", "slices.overlaps[breviary/keep.record]"], unfollowed := true, recurses := true, named := ["breviary/api.ErrRange", "breviary/api.ErrIO", "breviary/api.ErrCrash", "breviary/api.ErrFull", "breviary/api.ErrMany", "breviary/api.ErrShape", "breviary/api.ErrNoEnt", "breviary/api.ErrEnd"], apart := false, laid := [("breviary/api.ErrEnd", laid_breviary_api_ErrEnd), ("breviary/api.ErrShape", laid_breviary_api_ErrShape), ("breviary/api.ErrRange", laid_breviary_api_ErrRange), ("breviary/api.ErrMany", laid_breviary_api_ErrMany), ("breviary/api.ErrFull", laid_breviary_api_ErrFull), ("breviary/api.ErrCrash", laid_breviary_api_ErrCrash), ("breviary/api.ErrIO", laid_breviary_api_ErrIO), ("breviary/api.ErrNoEnt", laid_breviary_api_ErrNoEnt)] }
def KeepRoomSaid : Prop := keepRoomRow.holds Tryz.pinned (OpenSpec.ofChange keepRoomSpec)

/-- ITS FALSE NEIGHBOUR: 'it returns false'. Refute it at one input. -/
def keepRoomWrong : ChangeSpec := { name := "keepRoom", fn := fun _ => fun
  | [d1, d2, d3] => { results := [.lit (.bool false)], args := [d1, d2, d3] }
  | _ => none }
def KeepRoomWrongFalsely : Prop := keepRoomRow.holds Tryz.pinned (OpenSpec.ofChange keepRoomWrong)

/- THE SECOND FORM. 'bulk': how many values and letters a reading holds, each counted each time it is reached (what is shared counts as often as it is met; a slice's spare places count too). A statement '..UptoSaid' is the law's where the arguments, and the package variables that the reading takes, are together of bulk at most 1048576: NARROWER than '..Said'. Prove '..Said' where nothing that the law and all that it calls make is longer than what came in: it says more and counts as full. Else prove '..UptoSaid'. A law counts once. -/
mutual
def uptoBulk {H : Type} : DataW H → Nat
  | .lit (.string bytes) => bytes.length + 1
  | .lit _ => 1
  | .nil => 1
  | .ptr d => uptoBulk d + 1
  | .slice elems spare => uptoBulkAll elems + uptoBulkAll spare + 1
  | .agg parts => uptoBulkAll parts + 1
  | .iface _ d => uptoBulk d + 1
  | .map entries => uptoBulkEntries entries + 1
  | .held _ => 1
def uptoBulkAll {H : Type} : List (DataW H) → Nat
  | [] => 0
  | d :: r => uptoBulk d + uptoBulkAll r
def uptoBulkEntries {H : Type} : List (Lit × DataW H) → Nat
  | [] => 0
  | x :: r => uptoBulkEntry x + uptoBulkEntries r
def uptoBulkEntry {H : Type} : Lit × DataW H → Nat
  | (.string bytes, d) => bytes.length + uptoBulk d + 1
  | (_, d) => uptoBulk d + 1
 end
def uptoSmall : (H : Type) → List (DataW H) → Bool := fun _ ds => decide (uptoBulkAll ds ≤ 1048576)
def OpenSpec.upto (s : _root_.Go.ChangeSpec) : _root_.Go.OpenSpec := { _root_.Go.OpenSpec.ofChange s with cond := some uptoSmall }

/-- 'breviarylaw8.KeepRoom', WHERE WHAT IT READS IS OF BULK AT MOST 1048576: true; the input reads as it did. -/
def keepRoomUptoRow : OpenClaim := { program := "ytkhdgacjgccnnaagreatdoor", sum := "530825d13ab51a76c4668f228699c76915b1fce4655b6ebe25183b1717d939d9", func := "breviary/breviarylaw8.KeepRoom", spec := "keepRoom", inPlace := ["internal/bytealg.abigen_runtime_cmpstring", "slices.overlaps[breviary/keep.record]"], unfollowed := true, recurses := true, named := ["breviary/api.ErrRange", "breviary/api.ErrIO", "breviary/api.ErrCrash", "breviary/api.ErrFull", "breviary/api.ErrMany", "breviary/api.ErrShape", "breviary/api.ErrNoEnt", "breviary/api.ErrEnd"], apart := false, laid := [("breviary/api.ErrEnd", laid_breviary_api_ErrEnd), ("breviary/api.ErrShape", laid_breviary_api_ErrShape), ("breviary/api.ErrRange", laid_breviary_api_ErrRange), ("breviary/api.ErrMany", laid_breviary_api_ErrMany), ("breviary/api.ErrFull", laid_breviary_api_ErrFull), ("breviary/api.ErrCrash", laid_breviary_api_ErrCrash), ("breviary/api.ErrIO", laid_breviary_api_ErrIO), ("breviary/api.ErrNoEnt", laid_breviary_api_ErrNoEnt)], narrowed := true }
def KeepRoomUptoSaid : Prop := keepRoomUptoRow.holds Tryz.pinned (OpenSpec.upto keepRoomSpec)

end Rows
end Go.Proofs.YtkhdgacjgccnnaaGreatDoor
