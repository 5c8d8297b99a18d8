/- The walk of RootGreater. -/
import Derived.Test.YthgdofcamjkdpaaDoorGRootN
namespace Go.Proofs.YthgdofcamjkdpaaDoor
open Go.RowKit

theorem bytesO_any (S : Nat → Addr) {o : RV} {r : RSt} (w : World) (hS : Sent6 w S) (ho : o.Is r w) (hs : Sums r.refs) (h0 : -9223372036854775808 ≤ r.epoch) (h1 : r.epoch ≤ 9223372036854775807) :
    Calls Tryd.prog 6 #[o.v] w (BytesOut S w r) := by
  have he : o.v = rtV r.epoch o.A o.n o.c := by show rtV o.e o.A o.n o.c = _; rw [ho.1]
  rw [he]
  exact rootBytes_any S r o.A o.n o.c w hS ho.2 hs h0 h1
theorem Up.raw {s : DSt} {n m : Nat} (h : Up s n m) (i : Int) {l : List Int} (hl : Byt l) : Up (s.raw i l).2 n m := by
  refine ⟨?_, ?_, by rw [raw_len]; exact h.len, okN_raw h.okN hl⟩
  · unfold DSt.raw; split <;> exact h.arm
  · unfold DSt.raw; split <;> exact h.down
theorem raw_else {s : DSt} {i j : Nat} {l : List Int} (hij : i ≠ j) : (s.raw (i : Int) l).2.blks[j]? = s.blks[j]? := by
  unfold DSt.raw
  split
  · exact turn_else hij
  · rfl
theorem Four.raw {s : DSt} {H p i : Nat} {a b c d : BSt} (h : Four s H p a b c d) (l : List Int) (h1 : i ≠ p) (h2 : i ≠ p + H) (h3 : i ≠ 1 - p) (h4 : i ≠ 1 - p + H) : Four (s.raw (i : Int) l).2 H p a b c d :=
  ⟨⟨(raw_else h1).trans h.here.a, (raw_else h2).trans h.here.c⟩, ⟨(raw_else h3).trans h.there.a, (raw_else h4).trans h.there.c⟩⟩
section
variable {Real : World → Nat → DSt → (Nat → Prop) → Prop} {S : Nat → Addr} {w0 w w' : World} {d n q : Nat} {s : DSt} {F : Nat → Prop}
end
end Go.Proofs.YthgdofcamjkdpaaDoor
