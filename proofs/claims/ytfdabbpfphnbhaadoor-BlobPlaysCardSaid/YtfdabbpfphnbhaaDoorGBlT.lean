/- BlobTells, over plain values; refs that are collected, one more. -/
import Derived.Test.YtfdabbpfphnbhaaDoorGBlB
namespace Go.Proofs.YtfdabbpfphnbhaaDoor
open Go.RowKit

/-- k were put on a new device -/
def putsA (k : Nat) : ASt := ⟨fun i => decide (150 ≤ i) && decide (i < 150 + k), fun _ => false, 150 + (k + 149) % 150⟩
theorem puts_use (k i : Nat) : (putsA k).use i = (decide (150 ≤ i) && decide (i < 150 + k)) := rfl
theorem puts_first : openA' 300 [] = putsA 0 := by
  refine ASt.same (fun k => ?_) (fun k => rfl) rfl
  rw [open_use', puts_use]
  simp
theorem puts_free {k : Nat} : (putsA k).free (150 + k) = true := by
  show (!((putsA k).use (150 + k)) && !false) = true
  rw [puts_use]
  simp
theorem puts_next {k : Nat} (h : k < 150) : IsNext 300 (putsA k) (150 + k) := next_first (show 150 + (150 + (k + 149) % 150 - 150 + 1) % 150 = 150 + k by omega) puts_free
theorem puts_put {k : Nat} (h : k < 150) : (putsA k).put (150 + k) = putsA (k + 1) := by
  refine ASt.same (fun i => ?_) (fun i => rfl) (show 150 + k = 150 + (k + 1 + 149) % 150 by omega)
  rw [put_use, puts_use]
  by_cases e : i = 150 + k
  · subst e; rw [setN_same]; simp
  · rw [setN_other _ _ e, puts_use, Bool.eq_iff_iff]; simp; omega
/-- the refs of the first k -/
def tellR (k : Nat) : List RefS := (List.range k).map fun i : Nat => (((150 + i : Nat) : Int), crcOf (nats (mark i)))
theorem tellR_len (k : Nat) : (tellR k).length = k := by simp [tellR]
theorem tellR_get {k j : Nat} (h : j < k) : (tellR k)[j]? = some (((150 + j : Nat) : Int), crcOf (nats (mark j))) := by
  unfold tellR
  rw [List.getElem?_map, List.getElem?_range h]
  rfl
theorem tellR_succ (k : Nat) : tellR (k + 1) = tellR k ++ [(((150 + k : Nat) : Int), crcOf (nats (mark k)))] := by
  unfold tellR
  rw [List.range_succ, List.map_append]
  rfl
theorem mark_byt' {i : Nat} (h : i < 256) : Byt (mark i) := padB_byt (mark_byt h)
/-- what is read of each, where the one at 'at' was faulted -/
def Told (s : DSt) (m at' : Nat) : Prop := ∀ j, j < m → getA s 300 ((150 + j : Nat) : Int) (crcOf (nats (mark j))) = if j = at' then (107, []) else (0, mark j)
theorem laid_turn {s : DSt} {i k : Nat} {f : BSt → BSt} (h : LaidB s i) (hk : k ≠ 150 + i) : LaidB (s.turn (k : Int) f) i := by
  obtain ⟨b, h1, h2⟩ := h
  exact ⟨b, (turn_else hk).trans h1, h2⟩
theorem told_fail {s : DSt} {q m a : Nat} (u : Up s 300 q) (hm : m ≤ 20) (ha : a < m) (h : ∀ j, j < m → LaidB s j) : Told (s.fail ((150 + a : Nat) : Int)).2 m a := by
  obtain ⟨b, h1, h2, h3, h4, h5⟩ := h a ha
  have e : s.fail ((150 + a : Nat) : Int) = (true, s.turn ((150 + a : Nat) : Int) BSt.failed) := by
    unfold DSt.fail
    rw [if_pos (by rw [DSt.free_at h1, h3, h4]; rfl)]
  have u' := u.fail ((150 + a : Nat) : Int)
  rw [e] at u' ⊢
  intro j hj
  by_cases hja : j = a
  · subst hja
    rw [if_pos rfl]
    refine get_bad (l := []) (by omega) (by omega) ?_ (by decide)
    rw [u'.read (by omega) (turn_at h1)]
    unfold BSt.read BSt.failed
    rw [if_neg (by simpa using h3), if_pos rfl]
  · rw [if_neg hja]
    exact get_of (by omega) (by omega) (laid_read u' (by omega) (laid_turn (h j hj) (by omega))) rfl
theorem told_spoil {s : DSt} {q m a bits : Nat} {at' : Int} (u : Up s 300 q) (hm : m ≤ 20) (ha : a < m) (h : ∀ j, j < m → LaidB s j) (h0 : 0 ≤ at') (h1 : at' ≤ 252) (hb : bits ≠ 0) (hb2 : bits < 4294967296) : Told (s.spoil ((150 + a : Nat) : Int) at' bits).2 m a := by
  obtain ⟨b, hb1, h2, h3, h4, h5⟩ := h a ha
  have e : s.spoil ((150 + a : Nat) : Int) at' bits = (true, s.turn ((150 + a : Nat) : Int) (BSt.spoil at' bits)) := by
    unfold DSt.spoil
    rw [if_pos ⟨by rw [DSt.free_at hb1, h3, h4]; rfl, h0, h1, hb⟩]
  have u' := u.spoil ((150 + a : Nat) : Int) at' bits
  rw [e] at u' ⊢
  intro j hj
  by_cases hja : j = a
  · subst hja
    rw [if_pos rfl]
    refine get_io (l := turned (mark j) at' bits) (by omega) (by omega) ?_ (turned_other (mark_byt' (by omega)) (mark_len j) h0 h1 hb hb2).2
    rw [u'.read (by omega) (turn_at hb1)]
    unfold BSt.read BSt.spoil
    rw [if_neg (by simpa using h3), if_neg (by simpa using h5), h2]
  · rw [if_neg hja]
    exact get_of (by omega) (by omega) (laid_read u' (by omega) (laid_turn (h j hj) (by omega))) rfl
theorem or1_B (a : Nat) (ha : a < 4294967296) : ∃ m : Nat, m < 4294967296 ∧ m ≠ 0 ∧ bits .or .u32 (a : Int) 1 = (m : Int) := by
  have h1 : (BitVec.ofInt 32 (1 : Int)).toNat = 1 := by decide
  have h2 : (BitVec.ofInt 32 (a : Int)).toNat = a := by rw [BitVec.ofInt_natCast, BitVec.toNat_ofNat]; exact Nat.mod_eq_of_lt (by omega)
  have hl : a ||| 1 < 4294967296 := Nat.or_lt_two_pow (n := 32) (show a < 2 ^ 32 by omega) (show 1 < 2 ^ 32 by decide)
  refine ⟨a ||| 1, hl, fun h => by have := Nat.right_le_or (n := a) (m := 1); omega, ?_⟩
  show IntKind.u32.wrap ((BitVec.ofInt 32 (a : Int) ||| BitVec.ofInt 32 1).toNat : Int) = _
  rw [BitVec.toNat_or, h1, h2, IntKind.wrap_u32]
  omega
section
variable {Real : World → Nat → DSt → (Nat → Prop) → Prop} {AR : World → Nat → Nat → Nat → ASt → (Nat → Prop) → Prop} {S : Nat → Addr} {w0 w w' : World} {d g n q q' : Nat} {s s' : DSt} {a a' : ASt} {F G : Nat → Prop} {ks : List Lie}
/-- refs of the law's own: none yet -/
theorem Bk.refs0 (h : Bk Real AR S w0 w d g s n a q ks) (B : Nat) : Bk Real AR S w0 w d g s n a q (Lie.refs B (.slice none 0 0) [] :: ks) := by
  obtain ⟨F, G, h, hk⟩ := h
  refine ⟨F, G, h, fun K hK => ?_⟩
  rcases List.mem_cons.1 hK with rfl | hK
  · exact ⟨OwnB.nil w B, fun k hk => by cases hk⟩
  · exact hk K hK
/-- one more -/
theorem Bk.app (D : DevOk Real) (O : AreaOk Real AR) {B gg cap m : Nat} {v : Value} {l : List RefS} {x : RefS} (h : Bk Real AR S w0 w d g s n a q (Lie.refs B v l :: ks)) (hm : l.length = m) (hn : ∀ K, K ∈ ks → ∀ k, B ≤ k → ¬ K.B k) (hB : w0.heap.size ≤ B)
    (h1 : w'.ownsRow B 36 2 (.slice (some ⟨gg, 0, none⟩) (m + 1) cap) (m + 1) (refC l ++ cellsB x)) (h2 : w.grownBy w' v.ownBlock) (h3 : v.ownBlock = some gg ∨ gg = w.heap.size) :
    Bk Real AR S w0 w' d g s n a q (Lie.refs B (.slice (some ⟨gg, 0, none⟩) (m + 1) cap) (l ++ [x]) :: ks) := by
  subst hm
  obtain ⟨F, G, h, hk⟩ := h
  obtain ⟨ho, hob⟩ := hk _ List.mem_cons_self
  have hvb : ∀ k, v.ownBlock = some k → B ≤ k ∧ k < w.heap.size := World.ownsRow.lt ho
  have hvn : ∀ k, v.ownBlock = some k → ¬ F k ∧ ¬ G k := fun k hk => (hob k hk).2
  have hkept : ∀ (P : Nat → Prop), (∀ k, P k → k < w.heap.size) → (∀ k, v.ownBlock = some k → ¬ P k) → Kept P w w' := fun P hlt hno => ⟨fun k hk => h2.block k (hlt k hk) (fun e => hno k e.symm hk), h2.size⟩
  have hFl := D.lt h.real
  have hGl := O.lt h.ar
  refine ⟨F, G, ⟨D.kept h.real (hkept F hFl (fun k hk => (hvn k hk).1)), O.kept h.ar (hkept G hGl (fun k hk => (hvn k hk).2)), h.below.grown h2 h.below.size (fun k hk => Nat.le_trans hB (hvb k hk).1), h.sent0, h.fn, h.gn, h.ap, h.up, h.small, h.n0, h.n1, h.ok⟩, fun K hK => ?_⟩
  rcases List.mem_cons.1 hK with rfl | hK
  · refine ⟨?_, fun k hk => ?_⟩
    · show w'.ownsRow B 36 2 _ (l ++ [x]).length (refC (l ++ [x]))
      rw [List.length_append, refC_app]
      have e : refC [x] = cellsB x := by simp [refC]
      rw [e]
      exact h1
    · have hk : some gg = some k := hk
      obtain rfl : gg = k := by injection hk
      have hlt := (World.ownsRow.lt h1 gg rfl).2
      refine ⟨hlt, ?_⟩
      rcases h3 with h3 | h3
      · exact hvn gg h3
      · exact ⟨fun hf => by have := hFl _ hf; omega, fun hf => by have := hGl _ hf; omega⟩
  · obtain ⟨p1, p2⟩ := hk K (List.mem_cons_of_mem _ hK)
    exact ⟨K.keeps p1 (fun k hk => (p2 k hk).1) (hkept K.B (fun k hk => (p2 k hk).1) (fun k hk hb => hn K hK k (hvb k hk).1 hb)), fun k hk => ⟨Nat.lt_of_lt_of_le (p2 k hk).1 h2.size, (p2 k hk).2⟩⟩
theorem Bk.cellR {B m c j : Nat} {ad : Addr} {l : List RefS} {x : RefS} (h : Bk Real AR S w0 w d g s n a q ks) (hK : Lie.refs B (.slice (some ad) m c) l ∈ ks) (hx : l[j]? = some x) : w.cell? (ad.add (j * 2)) = some (.int .i64 x.1) ∧ w.cell? ⟨(ad.add (j * 2)).block, (ad.add (j * 2)).off + 1, none⟩ = some (.int .u32 (x.2 : Int)) := by
  obtain ⟨A, c', e, hrf, _⟩ := (h.refs hK).form
  injection e with e1 _ _
  subst e1
  obtain ⟨ad', x', e2, _, hx', h1, h2⟩ := hrf.get (k := j) (List.getElem?_eq_some_iff.1 hx).1
  cases e2
  rw [hx] at hx'
  cases hx'
  exact ⟨h1, h2⟩
end
theorem Tryd.infoRefB : (Tryd.prog.info? 36).map (fun i => (i.zero, i.size, i.bytes)) = some (some (.agg #[.int .i64 0, .int .u32 0]), 2, 16) := by kernel_rfl
theorem newsB {w : World} {t : TypeId} {x z : Int} : ∀ (j : Nat) (u : Value), [Value.int .i64 x, .int .u32 z][j]? = some u → (w.alloc (.cells #[.int .i64 x, .int .u32 z] t)).cell? ((⟨w.heap.size, 0, none⟩ : Addr).add j) = some u := fun j u hu => by
  have e : (⟨w.heap.size, 0, none⟩ : Addr).add j = ⟨w.heap.size, j, none⟩ := by unfold Addr.add; split <;> simp_all
  rw [e, (Blk.new w t #[.int .i64 x, .int .u32 z]).cell j]
  simpa using hu
theorem oneB (x z : Int) : ∀ u ∈ [Value.int .i64 x, .int .u32 z], u.oneCell' = true := fun u hu => by
  simp only [List.mem_cons, List.not_mem_nil, or_false] at hu
  rcases hu with rfl | rfl <;> rfl
end Go.Proofs.YtfdabbpfphnbhaaDoor
