/- The chapter's example; what the four blocks say behind saves. -/
import Derived.Test.YthgdofcamjkdpaaDoorGRootM
namespace Go.Proofs.YthgdofcamjkdpaaDoor
open Go.RowKit

theorem hl_on {w w' : World} {A : Option Addr} {n c : Nat} {l : List Int} (h : Sn w w.heap.size A n c l) (hb : Below w.heap.size w w') : Sn w' w'.heap.size A n c l :=
  ⟨h.len, h.cap, h.max, h.nil, fun ad ha hn => ⟨Nat.lt_of_lt_of_le (h.at_ ad ha hn).1 hb.size, fun j x hx => (hb.cell (by rw [add_block]; exact (h.at_ ad ha hn).1)).trans ((h.at_ ad ha hn).2 j x hx)⟩⟩
/-- of four blocks that can be read, what they are -/
theorem newest_at {s : DSt} {n q H p : Nat} {a b c d : BSt} (u : Up s n q) (h : Four s H p a b c d) (hH : 1 + H < n) (hp : p ≤ 1) : s.root p = readR a.read.2 ∧ s.root (p + H) = readR b.read.2 ∧ s.root (1 - p) = readR c.read.2 ∧ s.root (1 - p + H) = readR d.read.2 :=
  ⟨up_root u (by omega) h.here.a, up_root u (by omega) h.here.c, up_root u (by omega) h.there.a, up_root u (by omega) h.there.c⟩
/-- Load's and Copies' answers, of the root r of parity p -/
theorem loads {s : DSt} {n q H p : Nat} {a b c d : BSt} {r : RSt} (u : Up s n q) (h : Four s H p a b c d) (hH : 1 + H < n) (hp : p ≤ 1) (h0 : 0 < r.epoch) (h1 : Under r (readR a.read.2)) (h2 : Under r (readR b.read.2)) (h3 : Under r (readR c.read.2)) (h4 : Under r (readR d.read.2)) (hr : readR a.read.2 = some r ∨ readR b.read.2 = some r ∨ readR c.read.2 = some r ∨ readR d.read.2 = some r) : s.newest H = r := by
  obtain ⟨e1, e2, e3, e4⟩ := newest_at u h hH hp
  exact newest_four hp h0 (f := s.root) (by rw [e1]; exact h1) (by rw [e2]; exact h2) (by rw [e3]; exact h3) (by rw [e4]; exact h4) (by rw [e1, e2, e3, e4]; exact hr)
theorem copied {s : DSt} {n q H p : Nat} {a b c d : BSt} {r : RSt} (u : Up s n q) (h : Four s H p a b c d) (hH : 1 + H < n) (hp : p ≤ 1) (h0 : 0 < r.epoch) (he : r.epoch % 2 = (p : Int)) (hn : s.newest H = r) : s.copies H = has r (readR a.read.2) + has r (readR b.read.2) := by
  obtain ⟨e1, e2, _, _⟩ := newest_at u h hH hp
  have := copies_four hp h0 he (f := s.root) hn
  rw [e1, e2] at this
  exact this
theorem none_new {n q H p : Nat} {s : DSt} (u : Up s n q) (h : Four s H p blank blank blank blank) (hH : 1 + H < n) (hp : p ≤ 1) : s.newest H = noRoot := by
  obtain ⟨e1, e2, e3, e4⟩ := newest_at u h hH hp
  have hb : readR blank.read.2 = none := readR_zeros
  rw [hb] at e1 e2 e3 e4
  unfold DSt.newest
  rcases (show p = 0 ∨ p = 1 by omega) with rfl | rfl
  · simp only [Nat.zero_add, Nat.sub_zero] at e1 e2 e3 e4
    rw [e1, e2, e3, e4]; rfl
  · simp only [Nat.zero_add, Nat.sub_self] at e1 e2 e3 e4
    rw [e1, e2, e3, e4]; rfl
theorem mkRoot_code {e : Int} {l : List Int} (h0 : 1 ≤ e) (h1 : e ≤ 1099511627776) (h2 : ∀ x, x ∈ l → 0 ≤ x ∧ x ≤ 6000) (h3 : l.length ≤ 16) : (mkRoot e l).code = 0 :=
  RSt.fine_iff h0 h1 (fun x hx => by
    simp only [mkRoot, mkR, List.mem_map] at hx
    obtain ⟨y, hy, rfl⟩ := hx
    exact h2 y hy) (by simp [mkRoot, mkR]; exact h3)
theorem up_zero (n : Nat) (h : n ≤ 6000) : Up (DSt.new n) n 0 := up_new h
section
variable {Real : World → Nat → DSt → (Nat → Prop) → Prop}
set_option maxRecDepth 100000 in
set_option maxHeartbeats 4000000 in
theorem first6_any (D : DevOk Real) (S : Nat → Addr) (w : World) (hS : Sent6 w S) : Calls Tryd.prog 5 #[] w (Yes w) := by
  have HS := hid hS
  have HD := hid D
  have hf := four_new (n := 300) (H := 75) (p := 1) (by omega) (by omega)
  have HNw := hid (none_new (up_new (n := 300) (by omega)) hf (by omega) (by omega))
  have hc := mkRoot_code (e := 1) (l := []) (by omega) (by omega) (fun _ h => by cases h) (by simp)
  obtain ⟨s', hs', _⟩ := hf.save (up_new (n := 300) (by omega)) (by omega) (by omega) (by omega) (calm_new 300) hc (by rfl)
  have HSv := hid hs'
  have hh : halN 300 = 75 := by decide
  clear hS D hf hc hs'
  go_enter Tryd.func5, Tryd.ntmps5
  go_wp2_with fail
  refine (dk_new HD.out 300 _ (by omega) (by omega)).mono ?_
  rintro e w1 ⟨d, F, rfl, hk⟩
  have HK1 := hid hk
  clear hk
  go_wp2_with fail
  refine (dk_load HD.out HK1.out HS.out (by omega) (by omega) rfl).mono ?_
  rw [hh, HNw.out]
  rintro e w2 ⟨o, rfl, _, _, hk⟩
  have HK2 := hid hk
  have HK3 := hid (hk.on HD.out (show Below w2.heap.size w2 (w2.alloc (.cells #[.int .i64 o.e, o.s] 31)) from (Below.refl _ _).alloc (Nat.le_refl _) _))
  clear hk
  rw [show decide (0 < noRoot.epoch) = false from by decide]
  go_wp2_with fail
  refine (dk_made HD.out HK3.out 1 (l := []) (A := none) (m := 0) (c := 0) ⟨rfl, Nat.le_refl _, by unfold maxLen; omega, fun _ => rfl, fun _ h => by cases h⟩ (by omega)).mono ?_
  rintro e w3 ⟨o3, rfl, ho, _, hk⟩
  have HO3 := hid ho
  have HK4 := hid hk
  clear ho hk
  go_wp2_with fail
  refine (dk_save HD.out HK4.out HS.out (by omega) (by omega) HO3.out (mkR_sums _) (by show (-9223372036854775808 : Int) ≤ 1; omega) (by show (1 : Int) ≤ 9223372036854775807; omega)).mono ?_
  rw [hh, HSv.out]
  rintro e w4 ⟨⟨v, rfl, hv⟩, F', hk⟩
  obtain rfl := hv.nil
  have HB := hid hk.below
  clear hv hk
  go_wp2
  go_ret
  exact ⟨rfl, HB.out⟩
end
end Go.Proofs.YthgdofcamjkdpaaDoor
