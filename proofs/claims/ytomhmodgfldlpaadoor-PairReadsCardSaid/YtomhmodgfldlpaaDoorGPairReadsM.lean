/- What a play with pairs leaves of each pair that was written: the facts of PairReads. -/
import Derived.Test.YtomhmodgfldlpaaDoorGPairC
namespace Go.Proofs.YtomhmodgfldlpaaDoor
open Go.RowKit

/-- what was written at each of six places last; both blocks are that, or faulted -/
def Ply (s : DSt) (hv : Nat → Option (List Int)) : Prop := ∀ n, n < 6 → ∀ l, hv n = some l → l.length = 256 ∧ Byt l ∧ ∃ a c, At s n (n + 75) a c ∧ St l a ∧ St l c
theorem Ply.none (s : DSt) : Ply s (fun _ => none) := fun _ _ _ h => by cases h
/-- each block is written, or stays what it is of its list -/
theorem Ply.turn {s s' : DSt} {hv : Nat → Option (List Int)} (h : Ply s hv) (ht : ∀ (i : Nat) (b : BSt), s.blks[i]? = some b → ∃ b', s'.blks[i]? = some b' ∧ ∀ l, St l b → St l b') : Ply s' hv := by
  intro n hn l hl
  obtain ⟨h1, h2, a, c, hat, ha, hc⟩ := h n hn l hl
  obtain ⟨a', e1, s1⟩ := ht n a hat.a
  obtain ⟨c', e2, s2⟩ := ht (n + 75) c hat.c
  exact ⟨h1, h2, a', c', ⟨e1, e2⟩, s1 l ha, s2 l hc⟩
theorem Ply.flush {s : DSt} {hv : Nat → Option (List Int)} (h : Ply s hv) : Ply (fl s) hv := h.turn fun _ b hb => ⟨b.flush, fl_at hb, fun _ hs => hs.flush⟩
theorem st_spoil {l : List Int} {b : BSt} (h : St l b) (hp : b.pend = false) (hf : b.fault = false) {at' : Int} {bits : Nat} (h0 : 0 ≤ at') (h1 : at' ≤ 252) (hz : bits ≠ 0) (hz2 : bits < 4294967296) : St l (b.spoil at' bits) := by
  rcases h with ⟨h, hn⟩ | ⟨h, hf', hl, hh⟩ | ⟨a, z, h, hf', hl, h0', h1', hb, hb2, hh⟩ | ⟨h, hf', hl⟩
  · rw [hp] at h; cases h
  · exact .spoilt at' bits h rfl hl h0 h1 hz hz2 (by show turned b.has at' bits = _; rw [hh])
  · rw [hf] at hf'; cases hf'
  · rw [hf] at hf'; cases hf'
theorem st_fail {l : List Int} {b : BSt} (_ : St l b) (hp : b.pend = false) : St l b.failed := .failed hp rfl rfl
theorem turn_all {s : DSt} {j : Nat} {f : BSt → BSt} {P : BSt → Prop} (hf : ∀ b, s.blks[j]? = some b → P b) (hs : ∀ l b, P b → St l b → St l (f b)) : ∀ (i : Nat) (b : BSt), s.blks[i]? = some b → ∃ b', (s.turn (j : Int) f).blks[i]? = some b' ∧ ∀ l, St l b → St l b' := by
  intro i b hb
  by_cases e : j = i
  · subst e; exact ⟨f b, turn_at hb, fun l h => hs l b (hf b hb) h⟩
  · exact ⟨b, (turn_else e).trans hb, fun _ h => h⟩
theorem Ply.spoil {s : DSt} {hv : Nat → Option (List Int)} (h : Ply s hv) (j : Nat) (at' : Int) (bits : Nat) (hz2 : bits < 4294967296) : Ply (s.spoil (j : Int) at' bits).2 hv := by
  unfold DSt.spoil
  split
  · rename_i hc
    obtain ⟨hfr, h0, h1, hz⟩ := hc
    refine h.turn (turn_all (P := fun b => b.pend = false ∧ b.fault = false) (fun b hb => ?_) (fun l b hp hst => st_spoil hst hp.1 hp.2 h0 h1 hz hz2))
    rw [DSt.free_at hb] at hfr
    simpa using hfr
  · exact h
theorem Ply.fail {s : DSt} {hv : Nat → Option (List Int)} (h : Ply s hv) (j : Nat) : Ply (s.fail (j : Int)).2 hv := by
  unfold DSt.fail
  split
  · rename_i hfr
    refine h.turn (turn_all (P := fun b => b.pend = false ∧ b.fault = false) (fun b hb => ?_) (fun l b hp hst => st_fail hst hp.1))
    rw [DSt.free_at hb] at hfr
    simpa using hfr
  · exact h
def upd (hv : Nat → Option (List Int)) (n : Nat) (l : List Int) : Nat → Option (List Int) := fun k => if k = n then some l else hv k
theorem Ply.write {s : DSt} {q n : Nat} {hv : Nat → Option (List Int)} (h : Ply s hv) (u : Up s 300 q) (hn : n < 6) {l : List Int} (h256 : l.length = 256) (hb : Byt l) : Ply (pWrite s 75 n l) (upd hv n l) := by
  intro k hk l' hl'
  unfold upd at hl'
  by_cases e : k = n
  · subst e
    rw [if_pos rfl] at hl'
    cases hl'
    obtain ⟨a, ha⟩ := u.at_ (i := k) (by omega)
    obtain ⟨c, hc⟩ := u.at_ (i := k + 75) (by omega)
    exact ⟨h256, hb, _, _, At.write ⟨ha, hc⟩ (by omega) l, st_write a l, st_write c l⟩
  · rw [if_neg e] at hl'
    obtain ⟨h1, h2, a, c, hat, ha, hc⟩ := h k hk l' hl'
    refine ⟨h1, h2, a, c, ⟨?_, ?_⟩, ha, hc⟩
    · unfold pWrite
      exact (put_else (by omega)).trans ((put_else (by omega)).trans hat.a)
    · unfold pWrite
      exact (put_else (by omega)).trans ((put_else (by omega)).trans hat.c)
/-- a block of a pair is written anew with what was written there -/
theorem Ply.put {s : DSt} {hv : Nat → Option (List Int)} (h : Ply s hv) {n j : Nat} {l : List Int} (hn : n < 6) (hl : hv n = some l) (hj : j = n ∨ j = n + 75) : Ply (s.put j l) hv := by
  intro k hk l' hl'
  obtain ⟨h1, h2, a, c, hat, ha, hc⟩ := h k hk l' hl'
  by_cases e : k = n
  · subst e
    rw [hl] at hl'
    cases hl'
    rcases hj with rfl | rfl
    · exact ⟨h1, h2, _, c, hat.put1 (by omega) l, st_write a l, hc⟩
    · exact ⟨h1, h2, a, _, hat.put2 (by omega) l, ha, st_write c l⟩
  · exact ⟨h1, h2, a, c, ⟨(put_else (by omega)).trans hat.a, (put_else (by omega)).trans hat.c⟩, ha, hc⟩
/-- what Read answers of a pair that was written, and leaves -/
theorem Ply.read {s : DSt} {q n : Nat} {hv : Nat → Option (List Int)} {l : List Int} {a c : BSt} (h : Ply s hv) (u : Up s 300 q) (hn : n < 6) (hl : hv n = some l) (hat : At s n (n + 75) a c) :
    (a.good l = true → pRead s 75 n (crcOf (nats l)) = (0, l, s, 0)) ∧
    (a.good l = false → c.good l = true → pRead s 75 n (crcOf (nats l)) = (0, l, s.put n l, 1) ∧ At (s.put n l) n (n + 75) (a.write l) c ∧ Ply (s.put n l) hv) ∧
    (a.good l = false → c.good l = false → pRead s 75 n (crcOf (nats l)) = (107, [], s, 0)) := by
  obtain ⟨h1, h2, a', c', hat', ha, hc⟩ := h n hn l hl
  obtain rfl : a = a' := by have := hat.a.symm.trans hat'.a; simpa using this
  obtain rfl : c = c' := by have := hat.c.symm.trans hat'.c; simpa using this
  rw [ha.good h2 h1, hc.good h2 h1]
  refine ⟨fun g => ?_, fun g g' => ⟨?_, hat.put1 (by omega) l, h.put hn hl (.inl rfl)⟩, fun g g' => pRead_no u (by omega) hat g g'⟩
  · have := pRead_one (H := 75) u (by omega) hat g
    rwa [ha.right h2 h1 g] at this
  · have := pRead_two (H := 75) u (by omega) hat g g'
    rwa [hc.right h2 h1 g'] at this
/-- what Mend answers, and leaves -/
theorem Ply.mend {s : DSt} {q n : Nat} {hv : Nat → Option (List Int)} {l : List Int} {a c : BSt} (h : Ply s hv) (u : Up s 300 q) (hn : n < 6) (hl : hv n = some l) (hat : At s n (n + 75) a c) :
    (a.good l = true → c.good l = true → pMend s 75 n (crcOf (nats l)) = (0, 0, s)) ∧
    (a.good l = true → c.good l = false → pMend s 75 n (crcOf (nats l)) = (0, 1, s.put (n + 75) l) ∧ At (s.put (n + 75) l) n (n + 75) a (c.write l) ∧ Ply (s.put (n + 75) l) hv) ∧
    (a.good l = false → c.good l = true → pMend s 75 n (crcOf (nats l)) = (0, 1, s.put n l) ∧ At (s.put n l) n (n + 75) (a.write l) c ∧ Ply (s.put n l) hv) ∧
    (a.good l = false → c.good l = false → pMend s 75 n (crcOf (nats l)) = (107, 0, s)) := by
  obtain ⟨h1, h2, a', c', hat', ha, hc⟩ := h n hn l hl
  obtain rfl : a = a' := by have := hat.a.symm.trans hat'.a; simpa using this
  obtain rfl : c = c' := by have := hat.c.symm.trans hat'.c; simpa using this
  rw [ha.good h2 h1, hc.good h2 h1]
  refine ⟨fun g g' => pMend_both u (by omega) hat g g', fun g g' => ⟨?_, hat.put2 (by omega) l, h.put hn hl (.inr rfl)⟩, fun g g' => ⟨?_, hat.put1 (by omega) l, h.put hn hl (.inl rfl)⟩, fun g g' => pMend_no u (by omega) hat g g'⟩
  · have := pMend_two (H := 75) u (by omega) hat g g'
    rwa [ha.right h2 h1 g] at this
  · have := pMend_one (H := 75) u (by omega) hat g g'
    rwa [hc.right h2 h1 g'] at this
theorem good_write (b : BSt) (l : List Int) : (b.write l).good l = true := by unfold BSt.good; rw [read_write]; simp [same_self]
end Go.Proofs.YtomhmodgfldlpaaDoor
