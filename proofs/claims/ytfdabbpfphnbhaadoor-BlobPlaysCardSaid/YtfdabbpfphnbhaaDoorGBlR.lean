/- BlobPlays: what is carried from act to act. -/
import Derived.Test.YtfdabbpfphnbhaaDoorGBlO
import Derived.Test.YtfdabbpfphnbhaaDoorGBos
import Derived.Deep.DeepCutAuto
import Derived.Deep.CutBlock
import Derived.Deep.CutRange
namespace Go.Proofs.YtfdabbpfphnbhaaDoor
open Go.RowKit

/-- refs to blocks of the data, each with a sum -/
def RefsOk (l : List RefS) : Prop := ∀ r, r ∈ l → (∃ k : Nat, 150 ≤ k ∧ k < 300 ∧ r.1 = (k : Int)) ∧ r.2 < 4294967296
theorem RefsOk.nil : RefsOk [] := fun r h => by cases h
theorem RefsOk.more {l : List RefS} {k z : Nat} (h : RefsOk l) (h1 : 150 ≤ k) (h2 : k < 300) (hz : z < 4294967296) : RefsOk (l ++ [((k : Int), z)]) := fun r hr => by
  rcases List.mem_append.1 hr with hr | hr
  · exact h r hr
  · simp at hr
    subst hr
    exact ⟨⟨k, h1, h2, rfl⟩, hz⟩
/-- the device and the area, the law's own arrays (as b has it), and its refs, between two acts; i acts were told at the most -/
def BpM (Real : World → Nat → DSt → (Nat → Prop) → Prop) (AR : World → Nat → Nat → Nat → ASt → (Nat → Prop) → Prop) (S : Nat → Addr) (w1 : World) (d g ub hb B : Nat) (s : DSt) (a b : ASt) (q : Nat) (rv : Value) (refs : List RefS) (ks : List Lie) (w : World) : Prop :=
  Bk Real AR S w1 w d g s 300 a q (ks ++ [Lie.blk ub 29 (arr 300 b.use), Lie.blk hb 29 (arr 300 b.held), Lie.refs B rv refs])
def BpAt (Real : World → Nat → DSt → (Nat → Prop) → Prop) (AR : World → Nat → Nat → Nat → ASt → (Nat → Prop) → Prop) (S : Nat → Addr) (w1 : World) (d g ub hb B i : Nat) (rv lv : Value) (w : World) : Prop :=
  ∃ (s : DSt) (a : ASt) (q : Nat) (refs : List RefS), q ≤ i ∧ 150 ≤ leftA 300 a + i ∧ refs.length ≤ i ∧ RefsOk refs ∧ lv = .int .i64 (a.last : Int) ∧ BpM Real AR S w1 d g ub hb B s a a q rv refs [] w
theorem adB (ad : Addr) (m j : Nat) (h : 0 < j) : ad.add (m + j) = ⟨(ad.add m).block, (ad.add m).off + j, none⟩ := by rw [← add_add', addB_at _ j h]
end Go.Proofs.YtfdabbpfphnbhaaDoor
