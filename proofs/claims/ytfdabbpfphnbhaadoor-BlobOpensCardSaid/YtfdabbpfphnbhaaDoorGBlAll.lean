/- The laws of package blob (BlobHeld, BlobTells, BlobOpens, BlobRound), at package blob's own area over package dev's own device. -/
import Derived.Test.YtfdabbpfphnbhaaDoorGDvD
import Derived.Test.YtfdabbpfphnbhaaDoorGBmL
import Derived.Test.YtfdabbpfphnbhaaDoorGAll
import Derived.Test.YtfdabbpfphnbhaaDoorGBlHeldW
import Derived.Test.YtfdabbpfphnbhaaDoorGBlTellsW
import Derived.Test.YtfdabbpfphnbhaaDoorGBlOpensW
import Derived.Test.YtfdabbpfphnbhaaDoorGBlRoundW
namespace Go.Proofs.YtfdabbpfphnbhaaDoor
open Go.ChangeShapes Go.WideShapes Go.ChangeAt Go.RowKit

theorem blobHeld_all (A : Option Addr) (len cap : Nat) (zs : List Int) (n : Int) (w : World) (hr : IsRow .u8 w A len cap zs) (_ : (Lit.int .i64 n).wf = true) (hL : laidMetH Tryd.prog laid24 w) :
    Calls Tryd.prog 4 #[.slice A len cap, .int .i64 n] w (Yes w) := by
  obtain ⟨S, hS⟩ := sent_of_laid hL
  have hl := sl_of_row hr
  have hy := byt_of_row hr
  by_cases h : 256 < len
  · exact blobHeld_long dvOk (areaOk dvOk) S A len cap n w hS h (by have := hl.cap; have := hl.max; unfold maxLen at this; omega)
  · exact blobHeld_any dvOk (areaOk dvOk) S A len cap _ n w hS (by omega) hl hy
theorem u32_natB {z : Int} (h : (Lit.int .u32 z).wf = true) : ∃ y : Nat, z = (y : Int) ∧ y < 4294967296 := by
  have hb := bounds_u32 h
  exact ⟨z.toNat, by omega, by omega⟩
theorem blobTells_all (n at' where' y : Int) (fb : Bool) (w : World) (_ : (Lit.int .i64 n).wf = true) (_ : (Lit.int .i64 at').wf = true) (_ : (Lit.int .i64 where').wf = true) (hy : (Lit.int .u32 y).wf = true) (hL : laidMetH Tryd.prog laid24 w) :
    Calls Tryd.prog 5 #[.int .i64 n, .int .i64 at', .int .i64 where', .int .u32 y, .bool fb] w (Yes w) := by
  obtain ⟨S, hS⟩ := sent_of_laid hL
  obtain ⟨z, rfl, hz⟩ := u32_natB hy
  exact blobTells_any dvOk (areaOk dvOk) S n at' where' z fb w hS hz
theorem blobOpens_all (A : Option Addr) (len cap : Nat) (zs : List Int) (w : World) (hr : IsRow .i64 w A len cap zs) (hL : laidMetH Tryd.prog laid24 w) :
    Calls Tryd.prog 6 #[.slice A len cap] w (Yes w) := by
  obtain ⟨S, hS⟩ := sent_of_laid hL
  have hl := (sn_of_row hr).1
  by_cases h : 30 < len
  · exact blobOpens_long dvOk (areaOk dvOk) S A len cap w hS h (by have := hl.cap; have := hl.max; unfold maxLen at this; omega)
  · exact blobOpens_any dvOk (areaOk dvOk) S A len cap _ w hS (by omega) hl
theorem blobRound_all (n gap : Int) (w : World) (_ : (Lit.int .i64 n).wf = true) (_ : (Lit.int .i64 gap).wf = true) (hL : laidMetH Tryd.prog laid24 w) :
    Calls Tryd.prog 7 #[.int .i64 n, .int .i64 gap] w (Yes w) := by
  obtain ⟨S, hS⟩ := sent_of_laid hL
  exact blobRound_any dvOk (areaOk dvOk) S n gap w hS
end Go.Proofs.YtfdabbpfphnbhaaDoor
