/- BlobPlays, at package blob's own area over package dev's own device. -/
import Derived.Test.YtfdabbpfphnbhaaDoorGDvD
import Derived.Test.YtfdabbpfphnbhaaDoorGBmL
import Derived.Test.YtfdabbpfphnbhaaDoorGAll
import Derived.Test.YtfdabbpfphnbhaaDoorGBlPlaysW
import Derived.Test.YtfdabbpfphnbhaaDoorGBos
namespace Go.Proofs.YtfdabbpfphnbhaaDoor
open Go.ChangeShapes Go.WideShapes Go.ChangeAt Go.RowKit

theorem blobPlays_all (A : Option Addr) (len cap : Nat) (T : Nat → Stb) (w : World) (hT : Dob w w.heap.size A len T) (hL : laidMetH Tryd.prog laid24 w) :
    Calls Tryd.prog 3 #[.slice A len cap] w (Yes w) := by
  obtain ⟨S, hS⟩ := sent_of_laid hL
  by_cases h : 60 < len
  · exact blobPlays_long dvOk (areaOk dvOk) S A len cap w hS h (by have := hT.max; unfold maxLen at this; omega)
  · exact blobPlays_any dvOk (areaOk dvOk) S A len cap T w hS (by omega) hT
end Go.Proofs.YtfdabbpfphnbhaaDoor
