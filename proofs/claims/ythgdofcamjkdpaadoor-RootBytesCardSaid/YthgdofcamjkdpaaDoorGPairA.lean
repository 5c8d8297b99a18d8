/- The laws' own helpers on pairs, and each step of a play, over whatever keeps the calls. -/
import Derived.Test.YthgdofcamjkdpaaDoorGPairIf
import Derived.Test.YthgdofcamjkdpaaDoorGFull
namespace Go.Proofs.YthgdofcamjkdpaaDoor
open Go.RowKit

section
variable {Real : World → Nat → DSt → (Nat → Prop) → Prop} {PR : World → Nat → Nat → Nat → Nat → (Nat → Prop) → Prop}
/-! each step of a play -/
variable {S : Nat → Addr} {w0 w : World} {d p n m q : Nat} {s : DSt} {F G : Nat → Prop}
/-- what a step leaves -/
def Stepped (Real : World → Nat → DSt → (Nat → Prop) → Prop) (PR : World → Nat → Nat → Nat → Nat → (Nat → Prop) → Prop) (S : Nat → Addr) (w0 w : World) (d p : Nat) (s' : DSt) (n m' q' : Nat) (F G : Nat → Prop) (Q : (Nat → Prop) → (Nat → Prop) → Prop) (w' : World) : Prop :=
  ∃ F' G', Pd Real PR S w0 w' d p s' n m' q' F' G' ∧ Only (fun k => F k ∨ G k) w w' ∧ (∀ k, F' k → F k ∨ G k ∨ w.heap.size ≤ k) ∧ (∀ k, G' k → F k ∨ G k ∨ w.heap.size ≤ k) ∧ Q F' G'
theorem pd_flush (D : DevOk Real) (P : PairOk Real PR) (h : Pd Real PR S w0 w d p s n m q F G) (hq : q + 1 ≤ 1000) :
    Calls Tryd.prog 31 #[.pointer (some ⟨d, 0, none⟩)] w fun e w' => e = .returned .nilIface ∧ Stepped Real PR S w0 w d p (fl s) n m (q + 1) F G (fun _ _ => True) w' := by
  obtain ⟨he, hu⟩ := h.up.flush
  refine (D.flush S d s F w h.sent h.real h.ok).mono ?_
  rintro e w' ⟨⟨v, hv, rfl⟩, hupd⟩
  rw [he] at hv hupd
  obtain ⟨F', h1, h2, h3⟩ := h.dev P hupd hu hq
  exact ⟨by rw [hv.nil], F', G, h1, h2, h3, fun k hk => .inr (.inl hk), trivial⟩
theorem crc_nats {l : List Int} (h : Byt l) : crcOf (nats l) < 4294967296 := crc_lt (nats_bts h)
theorem pd_write (P : PairOk Real PR) (h : Pd Real PR S w0 w d p s n m q F G) {i : Nat} (hi : i < halN n) {A : Option Addr} {c : Nat} {l : List Int} (hl : Sl w w.heap.size A 256 c l) (hA : ∀ ad, A = some ad → ¬ F ad.block ∧ ¬ G ad.block) (hb : Byt l) (hq : q + 2 ≤ 1000) :
    Calls Tryd.prog 29 #[.pointer (some ⟨p, 0, none⟩), .int .i64 (i : Int), .slice A 256 c] w fun e w' => e = .returned (.tuple #[refV i (crcOf (nats l)), .nilIface]) ∧ Stepped Real PR S w0 w d p (pWrite s (halN n) i l) n m (q + 2) F G (fun _ _ => True) w' := by
  have h2 := halN_two (n := n)
  obtain ⟨_, u1⟩ := h.up.write (i := i) (by omega) hl.len hb
  obtain ⟨_, u2⟩ := u1.write (i := i + halN n) (by omega) hl.len hb
  refine (P.write S p d n m i q s F G A c l w0 w h.sent0 h.below h.fn h.real h.pr h.ap h.up h.small h.n0 h.n1 hi hl hA hb).mono ?_
  rintro e w' ⟨rfl, hupd⟩
  exact ⟨rfl, h.prs hupd u2 hq⟩
theorem pd_writeBad (P : PairOk Real PR) (h : Pd Real PR S w0 w d p s n m q F G) {i : Int} (hi : i < 0 ∨ (halN n : Int) ≤ i) {A : Option Addr} {c : Nat} {l : List Int} (hl : Sl w w.heap.size A 256 c l) :
    Calls Tryd.prog 29 #[.pointer (some ⟨p, 0, none⟩), .int .i64 i, .slice A 256 c] w fun e w' => (∃ a z v, EV S 103 v ∧ e = .returned (.tuple #[.agg #[.int .i64 a, .int .u32 z], v])) ∧ Stepped Real PR S w0 w d p s n m q F G (fun _ _ => True) w' := by
  refine (P.writeBad S p d n m q i s F G A c l w h.sent h.real h.pr h.ap h.up h.small h.n0 h.n1 hi hl).mono ?_
  rintro e w' ⟨he, hupd⟩
  exact ⟨he, h.prs hupd h.up h.small⟩
theorem up_pRead (h : Up s n q) {i z : Nat} (hi : i < halN n) : Up (pRead s (halN n) i z).2.2.1 n (q + 1) := by
  have h2 := halN_two (n := n)
  unfold pRead
  split
  · exact h.more (Nat.le_succ _)
  · split
    · rename_i hr
      obtain ⟨b, hb⟩ := h.at_ (i := i + halN n) (by omega)
      have e := h.read (by omega) hb
      have ho := h.okN.1 b (List.mem_of_getElem? hb)
      have h0 : b.read.1 = 0 := by
        rw [h.right (by omega) hb] at hr
        unfold BSt.right at hr
        simp only [Bool.and_eq_true, beq_iff_eq] at hr
        exact hr.1
      have hl : b.read.2.length = 256 ∧ Byt b.read.2 := by
        unfold BSt.read at h0 ⊢
        split
        · exact ⟨ho.2.2.2, ho.2.2.1⟩
        · split
          · rename_i h3 h4; rw [if_neg h3, if_pos h4] at h0; cases h0
          · exact ⟨ho.2.1, ho.1⟩
      rw [e]
      exact (h.write (by omega) hl.1 hl.2).2
    · exact h.more (Nat.le_succ _)
theorem right_data {b : BSt} {z : Nat} (ho : b.ok) (hr : b.right z = true) : b.read.2.length = 256 ∧ Byt b.read.2 := by
  have h0 : b.read.1 = 0 := by
    unfold BSt.right at hr
    simp only [Bool.and_eq_true, beq_iff_eq] at hr
    exact hr.1
  unfold BSt.read at h0 ⊢
  split
  · exact ⟨ho.2.2.2, ho.2.2.1⟩
  · split
    · rename_i h3 h4; rw [if_neg h3, if_pos h4] at h0; cases h0
    · exact ⟨ho.2.1, ho.1⟩
theorem up_pMend (h : Up s n q) {i z : Nat} (hi : i < halN n) : Up (pMend s (halN n) i z).2.2 n (q + 1) := by
  have h2 := halN_two (n := n)
  obtain ⟨a, ha⟩ := h.at_ (i := i) (by omega)
  obtain ⟨b, hb⟩ := h.at_ (i := i + halN n) (by omega)
  unfold pMend
  split
  · split
    · exact h.more (Nat.le_succ _)
    · rename_i hr _
      rw [h.right (by omega) ha] at hr
      have hd := right_data (h.okN.1 a (List.mem_of_getElem? ha)) hr
      rw [h.read (by omega) ha]
      exact (h.write (by omega) hd.1 hd.2).2
  · split
    · rename_i hr
      rw [h.right (by omega) hb] at hr
      have hd := right_data (h.okN.1 b (List.mem_of_getElem? hb)) hr
      rw [h.read (by omega) hb]
      exact (h.write (by omega) hd.1 hd.2).2
    · exact h.more (Nat.le_succ _)
end
end Go.Proofs.YthgdofcamjkdpaaDoor
