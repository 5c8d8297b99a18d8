/- Put together out of 4 texts. Package page's laws: PageFaults: the store that is filled; its device, faulted. -/
import Derived.Test.YtajcfhhnmjcmjaaGreatDoorGXbg
import Derived.Test.YtajcfhhnmjcmjaaGreatDoorGXaa
namespace Go.Proofs.YtajcfhhnmjcmjaaGreatDoor
open Go.RowKit Go.Maps

section
variable {Real : World → Nat → DSt → (Nat → Prop) → Prop} {PR : World → Nat → Nat → Nat → Nat → (Nat → Prop) → Prop} {S : Nat → Addr} {w0 w w' : World} {d g n q mk hb : Nat} {s : DSt} {P : PS} {ch : Chg} {cont : Cont} {M : Mdl}
end
section
variable {s : DSt} {n q : Nat} {P : PS} {cont : Cont} {c : Nat → List Int} {done : Nat → Bool}
/-- those in use: all apart, each with an item or a root -/
theorem used_at (hF : Fine (halN n) P cont) {a : Int} (ha : a ∈ P.used) : 0 ≤ a ∧ a < (halN n : Int) ∧ (a.toNat < 2 ∨ ∃ x l, Item P cont x l ∧ x.1.toNat = a.toNat) := by
  have h1 := (used_perm P).mem_iff.1 ha
  have hs := hF.apart.sound
  have h2 := hF.apart.two
  unfold PS.addrs at h1
  rcases List.mem_cons.1 h1 with rfl | h1
  · exact ⟨by omega, by omega, .inl (by decide)⟩
  · rcases List.mem_cons.1 h1 with rfl | h1
    · exact ⟨by omega, by omega, .inl (by decide)⟩
    · obtain ⟨x, hx, rfl⟩ := List.mem_map.1 h1
      obtain ⟨k1, k2⟩ := List.mem_filter.1 hx
      obtain ⟨i, hi⟩ := List.getElem?_of_mem k1
      have := hF.apart.at_ i x hi k2
      obtain ⟨l, hit⟩ := item_of hF hx
      exact ⟨by omega, by omega, .inr ⟨x, l, hit, rfl⟩⟩
/-- mended all the way and flushed: none of those in use is faulted -/
theorem Fau.whole (h : Fau s n q P cont c done) (n0 : 300 ≤ n) (hd : ∀ j, done j = false) {a : Int} (ha : a ∈ P.used) : (fl s).faulted a = false ∧ (fl s).faulted (a + (halN n : Int)) = false := by
  obtain ⟨h0, h1, h2⟩ := used_at h.fine ha
  have hh := half_four n0
  obtain ⟨a, rfl⟩ : ∃ k : Nat, a = (k : Int) := ⟨a.toNat, by omega⟩
  have hf := h.flush
  rw [show (a : Int) + (halN n : Int) = ((a + halN n : Nat) : Int) from by omega]
  rcases h2 with h2 | ⟨x, l, hit, hxa⟩
  · have ha2 : a < 2 := by omega
    obtain ⟨r1, r2⟩ := (h.root a ha2).both (hd a)
    have t1 := (h.ok a a ha2 (.inl rfl)).1
    have t2 := (h.ok a (a + halN n) ha2 (.inr rfl)).1
    exact ⟨r1.flushed.sound r1.blkd t1.byt t1.len hf.up (by omega), r2.flushed.sound r2.blkd t2.byt t2.len hf.up (by omega)⟩
  · obtain ⟨r1, r2⟩ := (h.item x l hit).both (hd _)
    rw [hxa] at r1 r2
    have e : (a : Int).toNat = a := Int.toNat_natCast a
    rw [e] at r1 r2
    obtain ⟨_, _, k1, k2⟩ := hit.fine h.fine
    exact ⟨r1.flushed.sound r1.blkd k2 k1 hf.up (by omega), r2.flushed.sound r2.blkd k2 k1 hf.up (by omega)⟩
end
end Go.Proofs.YtajcfhhnmjcmjaaGreatDoor
namespace Go.Proofs.YtajcfhhnmjcmjaaGreatDoor
open Go.RowKit Go.Maps

section
variable {Real : World → Nat → DSt → (Nat → Prop) → Prop} {PR : World → Nat → Nat → Nat → Nat → (Nat → Prop) → Prop} {S : Nat → Addr} {w0 w w' : World} {d g n q mk Q M hb db : Nat} {T : Nat → Prop} {s s' : DSt} {P : PS} {ch : Chg} {cont : Cont} {c : Nat → List Int} {done dn : Nat → Bool} {K K' : (Nat → Bool) → Prop} {Mm : Mdl}
/-- a store over a device with faults, none on those in use -/
def FZ (Real : World → Nat → DSt → (Nat → Prop) → Prop) (PR : World → Nat → Nat → Nat → Nat → (Nat → Prop) → Prop) (S : Nat → Addr) (w0 : World) (d g n Q M : Nat) (P : PS) (cont : Cont) (K : (Nat → Bool) → Prop) (T : Nat → Prop) (w : World) : Prop :=
  ∃ s q mk c done, Shop Real PR S w0 w d g n q mk T s P noChg ∧ Fau s n q P cont c done ∧ q + cntTo done (halN n) ≤ Q ∧ mk + cntTo done (halN n) ≤ M ∧ K done ∧ ∀ a, a ∈ P.used → s.faulted a = false ∧ s.faulted (a + (halN n : Int)) = false
theorem FZ.fst (h : FZ Real PR S w0 d g n Q M P cont K T w) : FSt Real PR S w0 d g n Q M P cont K T w := by
  obtain ⟨s, q, mk, c, done, h1, h2, h3, h4, h5, _⟩ := h
  exact ⟨s, q, mk, c, done, h1, h2, h3, h4, h5⟩
theorem FSt.turn {Q' M' : Nat} (h : FSt Real PR S w0 d g n Q M P cont K T w) (hQ : Q ≤ Q') (hM : M ≤ M') (hK : ∀ dn, K dn → K' dn) : FSt Real PR S w0 d g n Q' M' P cont K' T w := by
  obtain ⟨s, q, mk, c, done, h1, h2, h3, h4, h5⟩ := h
  exact ⟨s, q, mk, c, done, h1, h2, by omega, by omega, hK _ h5⟩
end
end Go.Proofs.YtajcfhhnmjcmjaaGreatDoor
namespace Go.Proofs.YtajcfhhnmjcmjaaGreatDoor
open Go.RowKit Go.Maps

section
variable {Real : World → Nat → DSt → (Nat → Prop) → Prop} {PR : World → Nat → Nat → Nat → Nat → (Nat → Prop) → Prop} {S : Nat → Addr} {w0 w w' : World} {d g n q mk Q M hb db : Nat} {T : Nat → Prop} {s s' : DSt} {P : PS} {ch : Chg} {cont : Cont} {c : Nat → List Int} {done dn : Nat → Bool} {K K' : (Nat → Bool) → Prop} {Mm : Mdl}
/-- with a list of ints at hand -/
def Wl (St : (Nat → Prop) → World → Prop) (A : Option Addr) (k : Nat) (l : List Int) (T : Nat → Prop) (w : World) : Prop := St T w ∧ Sn w w.heap.size A l.length k l ∧ ∀ ad, A = some ad → ¬ T ad.block
theorem Wl.step {St St' : (Nat → Prop) → World → Prop} {A : Option Addr} {k : Nat} {l : List Int} {T T' : Nat → Prop} (h : Wl St A k l T w) (hl : 0 < l.length) (hs : St' T' w') (ho : Only T w w') (hT : ∀ k, T' k → T k ∨ w.heap.size ≤ k) : Wl St' A k l T' w' := by
  refine ⟨hs, Sn.onlyA h.2.1 ho h.2.2, fun ad ha hn => ?_⟩
  have := (h.2.1.at_ ad ha hl).1
  exact (hT _ hn).elim (h.2.2 ad ha) (fun h => by omega)
end
end Go.Proofs.YtajcfhhnmjcmjaaGreatDoor
namespace Go.Proofs.YtajcfhhnmjcmjaaGreatDoor
open Go.RowKit

/-- the number that is laid: 2n, or -2n - 1 of one below 0 -/
def zz (n : Int) : Nat := if n < 0 then (-2 * n - 1).toNat else (2 * n).toNat
def unzz (u : Nat) : Int := if u % 2 = 1 then -1 - ((u / 2 : Nat) : Int) else ((u / 2 : Nat) : Int)
theorem unzz_zz (n : Int) : unzz (zz n) = n := by unfold unzz zz; split <;> split <;> omega
theorem zz_neg {n : Int} (h : n < 0) : zz n = (-2 * n - 1).toNat := if_pos h
theorem zz_pos {n : Int} (h : 0 ≤ n) : zz n = (2 * n).toNat := if_neg (by omega)
theorem zz_lt {n : Int} (h0 : -9223372036854775808 ≤ n) (h1 : n ≤ 9223372036854775807) : zz n < 18446744073709551616 := by unfold zz; split <;> omega
/-- seven bits a byte, the lowest first; the fuel is how many bytes more there may be -/
def encF : Nat → Nat → List Int
  | 0, u => [(u : Int)]
  | f + 1, u => if u < 128 then [(u : Int)] else ((u % 128 + 128 : Nat) : Int) :: encF f (u / 128)
def enc (n : Int) : List Int := encF 9 (zz n)
theorem encF_lt {f u : Nat} (h : u < 128) : encF f u = [(u : Int)] := by cases f <;> simp [encF, h]
theorem encF_ge {f u : Nat} (h : 128 ≤ u) : encF (f + 1) u = ((u % 128 + 128 : Nat) : Int) :: encF f (u / 128) := by simp [encF, Nat.not_lt.2 h]
theorem encF_len (f u : Nat) : 1 ≤ (encF f u).length ∧ (encF f u).length ≤ f + 1 := by
  induction f generalizing u with
  | zero => simp [encF]
  | succ f ih =>
    unfold encF
    split
    · simp
    · have := ih (u / 128); simp; omega
theorem enc_len (n : Int) : 1 ≤ (enc n).length ∧ (enc n).length ≤ 10 := encF_len 9 _
theorem encF_byt (f u : Nat) (h : u < 128 ^ f * 128) : Byt (encF f u) := by
  induction f generalizing u with
  | zero => intro x hx; simp [encF] at hx; omega
  | succ f ih =>
    unfold encF
    split
    · intro x hx; simp at hx; omega
    · intro x hx
      rcases List.mem_cons.1 hx with rfl | hx
      · omega
      · exact ih _ (by rw [Nat.pow_succ] at h; omega) x hx
theorem zz_fit {n : Int} (h0 : -9223372036854775808 ≤ n) (h1 : n ≤ 9223372036854775807) : zz n < 128 ^ 9 * 128 := by have := zz_lt h0 h1; omega
theorem enc_byt {n : Int} (h0 : -9223372036854775808 ≤ n) (h1 : n ≤ 9223372036854775807) : Byt (enc n) := encF_byt 9 _ (zz_fit h0 h1)
/-- a number read: 0 and the number, how many bytes; 1: no such form; 2: it ends too early -/
def scan : List Int → Nat → Nat → Nat × Nat × Nat
  | [], _, _ => (2, 0, 0)
  | c :: r, k, u => if (k = 9 ∧ 1 < c) ∨ (0 < k ∧ c = 0) then (1, 0, 0) else if c < 128 then (0, u + c.toNat % 128 * 128 ^ k, k + 1) else scan r (k + 1) (u + c.toNat % 128 * 128 ^ k)
theorem scan_enc (rest : List Int) (f k u v : Nat) (hk : k + f = 9) (hv : v * 128 ^ k < 18446744073709551616) (h0 : 0 < k → 0 < v) :
    scan (encF f v ++ rest) k u = (0, u + v * 128 ^ k, k + (encF f v).length) := by
  induction f generalizing k u v with
  | zero =>
    have e : k = 9 := by omega
    subst e
    have hv2 : v < 2 := by omega
    simp only [encF, List.singleton_append, scan]
    rw [if_neg (by have := h0 (by omega); omega), if_pos (by omega)]
    simp; omega
  | succ f ih =>
    by_cases h : v < 128
    · rw [encF_lt h]
      simp only [List.singleton_append, scan]
      rw [if_neg (by rintro (⟨h1, h2⟩ | ⟨h1, h2⟩); · omega
                     · have := h0 h1; omega), if_pos (by omega)]
      have : ((v : Int).toNat % 128) = v := by omega
      rw [this]; simp
    · rw [encF_ge (by omega)]
      simp only [List.cons_append, scan]
      rw [if_neg (by omega), if_neg (by omega)]
      have e : (((v % 128 + 128 : Nat) : Int).toNat % 128) = v % 128 := by omega
      rw [e, ih (k + 1) _ (v / 128) (by omega) (by
        rw [Nat.pow_succ]
        refine Nat.lt_of_le_of_lt ?_ hv
        have := Nat.div_mul_le_self v 128
        calc v / 128 * (128 ^ k * 128) = v / 128 * 128 * 128 ^ k := by rw [Nat.mul_comm (128 ^ k), Nat.mul_assoc]
          _ ≤ v * 128 ^ k := Nat.mul_le_mul_right _ this) (by intro _; omega)]
      refine Prod.ext rfl (Prod.ext ?_ ?_)
      · show u + v % 128 * 128 ^ k + v / 128 * 128 ^ (k + 1) = u + v * 128 ^ k
        rw [Nat.pow_succ, Nat.mul_comm (128 ^ k) 128, ← Nat.mul_assoc, Nat.add_assoc, ← Nat.add_mul]
        have : v % 128 + v / 128 * 128 = v := by omega
        rw [this]
      · show k + 1 + (encF f (v / 128)).length = k + (((v % 128 + 128 : Nat) : Int) :: encF f (v / 128)).length
        simp; omega
theorem scan_num {n : Int} (h0 : -9223372036854775808 ≤ n) (h1 : n ≤ 9223372036854775807) (rest : List Int) :
    scan (enc n ++ rest) 0 0 = (0, zz n, (enc n).length) := by
  unfold enc
  rw [scan_enc rest 9 0 0 (zz n) rfl (by have := zz_lt h0 h1; omega) (by omega)]
  simp
end Go.Proofs.YtajcfhhnmjcmjaaGreatDoor
