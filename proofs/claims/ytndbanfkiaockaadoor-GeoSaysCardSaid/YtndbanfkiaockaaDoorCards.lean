/-
  DERIVED. GIVEN WITH THE SEED: THE CARDS: each row of YtndbanfkiaockaaDoorRows.lean that lists a variable, with what it lists TIED to the program's text (the seventh form; the later family's looks); each row that meets fmt, with fmt's text TOLD by the authors' own Lean function (tested against real Go, not proved from fmt's source: count such statements apart). THE CARD IS WHAT COUNTS. Prove the row's statement (the work); the ties are given (YtndbanfkiaockaaDoorTie.lean); close each card by the builder's one call (the guide's Derived/Test/ToyasCard.lean, 'card_holds'). Laid BY PROGRAM, IN A SANDBOX (cutbox-door.mjs). By AI agents, Wed Nov 11 2026. No macro, syntax, notation, axiom, sorry.
-/
import Derived.Test.YtndbanfkiaockaaDoorRows
import GoSem.ClaimSeven
namespace Go.Proofs.YtndbanfkiaockaaDoor
namespace Rows

/-- THE TIED CARD OF 'breviarylaw3.DevPlays'. -/
def devPlaysCard : Claim7 := { stood := { row := devPlaysRow, standIns := [], harness := (true, "17a8312f586082ab1ca010969cbe1c72ace6dedda862d44af89240794ac459bd"), looks := true }, kinds := [], alts := [], laidByText := true, laidKinds := [.sentinel, .sentinel, .sentinel, .sentinel, .sentinel, .sentinel, .sentinel, .sentinel, .sentinel, .sentinel, .sentinel, .sentinel, .sentinel, .sentinel, .sentinel, .sentinel, .sentinel, .sentinel, .sentinel, .sentinel, .sentinel, .sentinel, .sentinel, .sentinel], laidTests := true, laidLooks := .later }
def DevPlaysCardSaid : Prop := Claim7.holds Tryd.pinned (.plain (OpenSpec.ofChange devPlaysSpec)) devPlaysCard

/-- THE TIED CARD OF 'breviarylaw4.GeoSays'. -/
def geoSaysCard : Claim7 := { stood := { row := geoSaysRow, standIns := [], harness := (true, "17a8312f586082ab1ca010969cbe1c72ace6dedda862d44af89240794ac459bd"), looks := true }, kinds := [], alts := [], laidByText := true, laidKinds := [.sentinel, .sentinel, .sentinel, .sentinel, .sentinel, .sentinel, .sentinel, .sentinel, .sentinel, .sentinel, .sentinel, .sentinel, .sentinel, .sentinel, .sentinel, .sentinel, .sentinel, .sentinel, .sentinel, .sentinel, .sentinel, .sentinel, .sentinel, .sentinel], laidTests := true, laidLooks := .later }
def GeoSaysCardSaid : Prop := Claim7.holds Tryd.pinned (.plain (OpenSpec.ofChange geoSaysSpec)) geoSaysCard

/-- THE TIED CARD OF 'breviarylaw4.GeoPairs'. -/
def geoPairsCard : Claim7 := { stood := { row := geoPairsRow, standIns := [], harness := (true, "17a8312f586082ab1ca010969cbe1c72ace6dedda862d44af89240794ac459bd"), looks := true }, kinds := [], alts := [], laidByText := true, laidKinds := [.sentinel], laidTests := true, laidLooks := .later }
def GeoPairsCardSaid : Prop := Claim7.holds Tryd.pinned (.plain (OpenSpec.ofChange geoPairsSpec)) geoPairsCard

/-- THE TIED CARD OF 'breviarylaw4.GeoQuotas'. -/
def geoQuotasCard : Claim7 := { stood := { row := geoQuotasRow, standIns := [], harness := (true, "17a8312f586082ab1ca010969cbe1c72ace6dedda862d44af89240794ac459bd"), looks := true }, kinds := [], alts := [], laidByText := true, laidKinds := [.sentinel], laidTests := true, laidLooks := .later }
def GeoQuotasCardSaid : Prop := Claim7.holds Tryd.pinned (.plain (OpenSpec.ofChange geoQuotasSpec)) geoQuotasCard

/-- THE TIED CARD OF 'breviarylaw4.GeoBounds'. -/
def geoBoundsCard : Claim7 := { stood := { row := geoBoundsRow, standIns := [], harness := (true, "17a8312f586082ab1ca010969cbe1c72ace6dedda862d44af89240794ac459bd"), looks := true }, kinds := [], alts := [], laidByText := true, laidKinds := [.sentinel, .sentinel, .sentinel, .sentinel, .sentinel, .sentinel, .sentinel, .sentinel, .sentinel, .sentinel, .sentinel, .sentinel, .sentinel, .sentinel, .sentinel, .sentinel, .sentinel, .sentinel, .sentinel, .sentinel, .sentinel, .sentinel, .sentinel, .sentinel], laidTests := true, laidLooks := .later }
def GeoBoundsCardSaid : Prop := Claim7.holds Tryd.pinned (.plain (OpenSpec.ofChange geoBoundsSpec)) geoBoundsCard

/-- THE SECOND FORM's CARD OF 'breviarylaw3.DevPlays'. -/
def devPlaysUptoCard : Claim7 := { stood := { row := devPlaysUptoRow, standIns := [], harness := (true, "17a8312f586082ab1ca010969cbe1c72ace6dedda862d44af89240794ac459bd"), looks := true }, kinds := [], alts := [], laidByText := true, laidKinds := [.sentinel, .sentinel, .sentinel, .sentinel, .sentinel, .sentinel, .sentinel, .sentinel, .sentinel, .sentinel, .sentinel, .sentinel, .sentinel, .sentinel, .sentinel, .sentinel, .sentinel, .sentinel, .sentinel, .sentinel, .sentinel, .sentinel, .sentinel, .sentinel], laidTests := true, laidLooks := .later }
def DevPlaysUptoCardSaid : Prop := Claim7.holds Tryd.pinned (.plain (OpenSpec.upto devPlaysSpec)) devPlaysUptoCard

/-- THE SECOND FORM's CARD OF 'breviarylaw4.GeoSays'. -/
def geoSaysUptoCard : Claim7 := { stood := { row := geoSaysUptoRow, standIns := [], harness := (true, "17a8312f586082ab1ca010969cbe1c72ace6dedda862d44af89240794ac459bd"), looks := true }, kinds := [], alts := [], laidByText := true, laidKinds := [.sentinel, .sentinel, .sentinel, .sentinel, .sentinel, .sentinel, .sentinel, .sentinel, .sentinel, .sentinel, .sentinel, .sentinel, .sentinel, .sentinel, .sentinel, .sentinel, .sentinel, .sentinel, .sentinel, .sentinel, .sentinel, .sentinel, .sentinel, .sentinel], laidTests := true, laidLooks := .later }
def GeoSaysUptoCardSaid : Prop := Claim7.holds Tryd.pinned (.plain (OpenSpec.upto geoSaysSpec)) geoSaysUptoCard

/-- THE SECOND FORM's CARD OF 'breviarylaw4.GeoPairs'. -/
def geoPairsUptoCard : Claim7 := { stood := { row := geoPairsUptoRow, standIns := [], harness := (true, "17a8312f586082ab1ca010969cbe1c72ace6dedda862d44af89240794ac459bd"), looks := true }, kinds := [], alts := [], laidByText := true, laidKinds := [.sentinel], laidTests := true, laidLooks := .later }
def GeoPairsUptoCardSaid : Prop := Claim7.holds Tryd.pinned (.plain (OpenSpec.upto geoPairsSpec)) geoPairsUptoCard

/-- THE SECOND FORM's CARD OF 'breviarylaw4.GeoQuotas'. -/
def geoQuotasUptoCard : Claim7 := { stood := { row := geoQuotasUptoRow, standIns := [], harness := (true, "17a8312f586082ab1ca010969cbe1c72ace6dedda862d44af89240794ac459bd"), looks := true }, kinds := [], alts := [], laidByText := true, laidKinds := [.sentinel], laidTests := true, laidLooks := .later }
def GeoQuotasUptoCardSaid : Prop := Claim7.holds Tryd.pinned (.plain (OpenSpec.upto geoQuotasSpec)) geoQuotasUptoCard

/-- THE SECOND FORM's CARD OF 'breviarylaw4.GeoBounds'. -/
def geoBoundsUptoCard : Claim7 := { stood := { row := geoBoundsUptoRow, standIns := [], harness := (true, "17a8312f586082ab1ca010969cbe1c72ace6dedda862d44af89240794ac459bd"), looks := true }, kinds := [], alts := [], laidByText := true, laidKinds := [.sentinel, .sentinel, .sentinel, .sentinel, .sentinel, .sentinel, .sentinel, .sentinel, .sentinel, .sentinel, .sentinel, .sentinel, .sentinel, .sentinel, .sentinel, .sentinel, .sentinel, .sentinel, .sentinel, .sentinel, .sentinel, .sentinel, .sentinel, .sentinel], laidTests := true, laidLooks := .later }
def GeoBoundsUptoCardSaid : Prop := Claim7.holds Tryd.pinned (.plain (OpenSpec.upto geoBoundsSpec)) geoBoundsUptoCard
end Rows
end Go.Proofs.YtndbanfkiaockaaDoor
