/- What is pending; a block read by the device itself; pairs opened anew. -/
import Derived.Test.YthgdofcamjkdpaaDoorGPairC
namespace Go.Proofs.YthgdofcamjkdpaaDoor
open Go.RowKit

theorem countP_modify {α : Type} (p : α → Bool) (f : α → α) : ∀ (l : List α) (i : Nat) (x : α), l[i]? = some x → p (f x) = true → (l.modify i f).countP p = l.countP p + (if p x = true then 0 else 1)
  | [], i, x, h, _ => by simp at h
  | y :: l, 0, x, h, hf => by
    simp at h
    subst h
    simp [List.countP_cons, hf]
    split <;> simp_all
  | y :: l, i + 1, x, h, hf => by
    simp at h
    have := countP_modify p f l i x h hf
    simp only [List.modify_succ_cons, List.countP_cons, this]
    omega
theorem put_pending {s : DSt} {i : Nat} {b : BSt} (h : s.blks[i]? = some b) (l : List Int) : (s.put i l).pending = s.pending + (if b.pend = true then 0 else 1) := countP_modify BSt.pend (BSt.write l) s.blks i b h rfl
theorem new_pending (n : Nat) : (DSt.new n).pending = 0 := by
  unfold DSt.pending DSt.new
  rw [List.countP_eq_zero]
  intro b hb
  rw [List.eq_of_mem_replicate hb]
  decide
section
variable {Real : World → Nat → DSt → (Nat → Prop) → Prop} {PR : World → Nat → Nat → Nat → Nat → (Nat → Prop) → Prop} {S : Nat → Addr} {w0 w w' : World} {d p n m q m' q' : Nat} {s s' : DSt} {ks : List Kd}
theorem pk_devRead (D : DevOk Real) (P : PairOk Real PR) (h : Pk Real PR S w0 w d p s n m q ks) {i : Nat} {b : BSt} {l : List Int} (hi : i < n) (hb : s.blks[i]? = some b) (hl : b.read = (0, l)) (h256 : l.length = 256) :
    Calls Tryd.prog 53 #[.pointer (some ⟨d, 0, none⟩), .int .i64 (i : Int)] w fun e w' => ∃ A c, e = .returned (.tuple #[.slice A 256 c, .nilIface]) ∧ Pk Real PR S w0 w' d p s n m q (Kd.byt A 256 c l :: ks) := by
  have h0 := h
  obtain ⟨F, G, h, hk⟩ := h
  refine (D.read S d s F i w h.sent h.real h.ok).mono ?_
  rw [h.up.read hi hb, hl]
  rintro e w' ⟨A, k, c, v, rfl, hv, hs, hb2, hn⟩
  have hlen := hs.len
  rw [h256] at hlen
  subst hlen
  exact ⟨A, c, by rw [hv.nil], h0.more D P hb2 hs hn⟩
end
end Go.Proofs.YthgdofcamjkdpaaDoor
