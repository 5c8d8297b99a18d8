/- Blocks kept twice, over the plain device: what Write, Read and Mend answer, and what they leave. -/
import Derived.Test.YtfdabbpfphnbhaaDoorGDevIf
namespace Go.Proofs.YtfdabbpfphnbhaaDoor

/-- a device of n blocks that is up, with nothing armed; m calls at the most -/
structure Up (s : DSt) (n m : Nat) : Prop where
  arm : s.arm = 0
  down : s.down = false
  len : s.blks.length = n
  okN : s.okN m
theorem Up.ok {s : DSt} {n m : Nat} (h : Up s n m) (hm : m ≤ 1000000) : s.ok := h.okN.ok hm
theorem Up.more {s : DSt} {n m k : Nat} (h : Up s n m) (hk : m ≤ k) : Up s n k := ⟨h.arm, h.down, h.len, h.okN.more hk⟩
theorem Up.at_ {s : DSt} {n m i : Nat} (h : Up s n m) (hi : i < n) : ∃ b, s.blks[i]? = some b := ⟨_, List.getElem?_eq_getElem (by rw [h.len]; exact hi)⟩
theorem Up.inB {s : DSt} {n m i : Nat} (h : Up s n m) (hi : i < n) : s.inB (i : Int) = true := by
  rw [DSt.in_iff, h.len]; omega
theorem Up.power {s : DSt} {n m : Nat} (h : Up s n m) : s.power = (0, s) := by
  unfold DSt.power; rw [if_neg (by rw [h.down]; decide), if_pos h.arm]
theorem up_new {n : Nat} (h : n ≤ 6000) : Up (DSt.new n) n 0 := ⟨rfl, rfl, by simp [DSt.new], okN_new h⟩
theorem new_at {n i : Nat} (h : i < n) : (DSt.new n).blks[i]? = some blank := by
  unfold DSt.new; rw [List.getElem?_replicate, if_pos h]
theorem Up.read {s : DSt} {n m i : Nat} {b : BSt} (h : Up s n m) (hi : i < n) (hb : s.blks[i]? = some b) : s.read (i : Int) = b.read := by
  unfold DSt.read
  rw [if_neg (by rw [h.down]; decide), if_neg (by rw [h.inB hi]; decide), Int.toNat_natCast, hb]; rfl

/-- a block is written -/
def DSt.put (s : DSt) (i : Nat) (l : List Int) : DSt := { s.turn (i : Int) (BSt.write l) with calls := s.calls + 1 }
theorem put_at {s : DSt} {i : Nat} {l : List Int} {b : BSt} (h : s.blks[i]? = some b) : (s.put i l).blks[i]? = some (b.write l) := turn_at h
theorem turn_else {s : DSt} {i j : Nat} {f : BSt → BSt} (h : i ≠ j) : (s.turn (i : Int) f).blks[j]? = s.blks[j]? := by
  unfold DSt.turn
  show (s.blks.modify i f)[j]? = _
  rw [List.getElem?_modify]
  cases s.blks[j]? <;> simp [h]
theorem put_else {s : DSt} {i j : Nat} {l : List Int} (h : i ≠ j) : (s.put i l).blks[j]? = s.blks[j]? := turn_else h
theorem Up.write {s : DSt} {n m i : Nat} {l : List Int} (h : Up s n m) (hi : i < n) (hl : l.length = 256) (hb : Byt l) : s.write (i : Int) l = (0, s.put i l) ∧ Up (s.put i l) n (m + 1) := by
  have e : s.write (i : Int) l = (0, s.put i l) := by
    unfold DSt.write
    rw [h.power, if_pos rfl]
    unfold DSt.write1
    rw [if_neg (by rw [h.inB hi]; decide), if_neg (by omega)]
    rfl
  have ho := okN_write (i := (i : Int)) h.okN hb
  rw [e] at ho
  exact ⟨e, h.arm, h.down, by show (s.turn _ _).blks.length = n; rw [DSt.turn_len]; exact h.len, ho⟩
theorem put_put {s : DSt} {i j : Nat} {l k : List Int} (h : i ≠ j) : (s.put i l).put j k = (s.put j k).put i l := by
  have e : (s.blks.modify i (BSt.write l)).modify j (BSt.write k) = (s.blks.modify j (BSt.write k)).modify i (BSt.write l) := by
    apply List.ext_getElem?
    intro x
    simp only [List.getElem?_modify]
    by_cases h1 : i = x <;> by_cases h2 : j = x
    · omega
    · simp [h1, h2]
    · simp [h1, h2]
    · simp [h1, h2]
  unfold DSt.put DSt.turn
  simp only [Int.toNat_natCast]
  rw [e]
def fl (s : DSt) : DSt := { s with blks := s.blks.map BSt.flush, calls := s.calls + 1 }
theorem Up.flush {s : DSt} {n m : Nat} (h : Up s n m) : s.flush = (0, fl s) ∧ Up (fl s) n (m + 1) := by
  have e : s.flush = (0, fl s) := by unfold DSt.flush; rw [h.power, if_pos rfl]; rfl
  have ho := okN_flush h.okN
  rw [e] at ho
  exact ⟨e, h.arm, h.down, by show (s.blks.map _).length = n; rw [List.length_map]; exact h.len, ho⟩
theorem fl_at {s : DSt} {i : Nat} {b : BSt} (h : s.blks[i]? = some b) : (fl s).blks[i]? = some b.flush := by
  unfold fl; simp [h]
theorem Up.spoil {s : DSt} {n m : Nat} (h : Up s n m) (i at' : Int) (bits : Nat) : Up (s.spoil i at' bits).2 n m := by
  refine ⟨?_, ?_, by rw [spoil_len]; exact h.len, okN_spoil h.okN⟩
  · unfold DSt.spoil; split <;> exact h.arm
  · unfold DSt.spoil; split <;> exact h.down
theorem Up.fail {s : DSt} {n m : Nat} (h : Up s n m) (i : Int) : Up (s.fail i).2 n m := by
  refine ⟨?_, ?_, by rw [fail_len]; exact h.len, okN_fail h.okN⟩
  · unfold DSt.fail; split <;> exact h.arm
  · unfold DSt.fail; split <;> exact h.down

/-- half of the mirrored blocks -/
def halN (n : Nat) : Nat := min (n / 4) 512
theorem halN_two {n : Nat} : 2 * halN n ≤ n := by unfold halN; omega
/-- it can be read, and has that sum -/
def BSt.right (b : BSt) (z : Nat) : Bool := (b.read.1 == 0) && (crcOf (nats b.read.2) == z)
def DSt.right (s : DSt) (i z : Nat) : Bool := ((s.read (i : Int)).1 == 0) && (crcOf (nats (s.read (i : Int)).2) == z)
theorem Up.right {s : DSt} {n m i : Nat} {b : BSt} (h : Up s n m) (hi : i < n) (hb : s.blks[i]? = some b) (z : Nat) : s.right i z = b.right z := by
  unfold DSt.right BSt.right; rw [h.read hi hb]
def pWrite (s : DSt) (H i : Nat) (l : List Int) : DSt := (s.put i l).put (i + H) l
/-- Read: the error's number, the bytes, the device, how many were written -/
def pRead (s : DSt) (H i z : Nat) : Int × List Int × DSt × Nat :=
  if s.right i z = true then (0, (s.read (i : Int)).2, s, 0) else if s.right (i + H) z = true then (0, (s.read ((i + H : Nat) : Int)).2, s.put i (s.read ((i + H : Nat) : Int)).2, 1) else (107, [], s, 0)
/-- Mend: the error's number, how many, the device -/
def pMend (s : DSt) (H i z : Nat) : Int × Nat × DSt :=
  if s.right i z = true then (if s.right (i + H) z = true then (0, 0, s) else (0, 1, s.put (i + H) (s.read (i : Int)).2))
  else if s.right (i + H) z = true then (0, 1, s.put i (s.read ((i + H : Nat) : Int)).2) else (107, 0, s)

/-! What a block is that was written last with l: pending; flushed and sound; turned; unreadable. -/
inductive St (l : List Int) (b : BSt) : Prop
  | pend (h : b.pend = true) (hn : b.next = l)
  | sound (h : b.pend = false) (hf : b.fault = false) (hl : b.fail = false) (hh : b.has = l)
  | spoilt (at' : Int) (bits : Nat) (h : b.pend = false) (hf : b.fault = true) (hl : b.fail = false) (h0 : 0 ≤ at') (h1 : at' ≤ 252) (hb : bits ≠ 0) (hb2 : bits < 4294967296) (hh : b.has = turned l at' bits)
  | failed (h : b.pend = false) (hf : b.fault = true) (hl : b.fail = true)
/-- it reads as what was written -/
def BSt.good (l : List Int) (b : BSt) : Bool := (b.read.1 == 0) && sameB b.read.2 l
theorem St.write {l : List Int} {b : BSt} (k : List Int) (_ : St l b) : St k (b.write k) := .pend rfl rfl
theorem st_write (b : BSt) (k : List Int) : St k (b.write k) := .pend rfl rfl
theorem St.flush {l : List Int} {b : BSt} (h : St l b) : St l b.flush := by
  unfold BSt.flush
  rcases h with ⟨h, hn⟩ | ⟨h, hf, hl, hh⟩ | ⟨a, z, h, hf, hl, h0, h1, hb, hb2, hh⟩ | ⟨h, hf, hl⟩
  · rw [if_pos h]; exact .sound rfl rfl rfl hn
  · rw [if_neg (by rw [h]; decide)]; exact .sound h hf hl hh
  · rw [if_neg (by rw [h]; decide)]; exact .spoilt a z h hf hl h0 h1 hb hb2 hh
  · rw [if_neg (by rw [h]; decide)]; exact .failed h hf hl
/-- turned bytes are others, and so is their sum -/
theorem turned_other {l : List Int} (hl : Byt l) (h256 : l.length = 256) {at' : Int} {bits : Nat} (h0 : 0 ≤ at') (h1 : at' ≤ 252) (hb : bits ≠ 0) (hb2 : bits < 4294967296) : turned l at' bits ≠ l ∧ crcOf (nats (turned l at' bits)) ≠ crcOf (nats l) := by
  have hne : turned l at' bits ≠ l := by
    intro he
    obtain ⟨p, rfl⟩ : ∃ p : Nat, at' = (p : Int) := ⟨at'.toNat, by omega⟩
    have hz : ∀ j, j < 4 → byteOf bits j = 0 := by
      intro j hj
      have hx : l[p + j]? = some (l[p + j]'(by omega)) := List.getElem?_eq_getElem (by omega)
      have hv := hl.at_ hx
      have hg := turns_get l p bits 4 (p + j)
      have e1 : turned l (p : Int) bits = turns l p bits 4 := by
        unfold turned
        rw [if_neg (by omega), Int.toNat_natCast]
      rw [← e1, he, hx] at hg
      simp only [Option.map_some, Option.some.injEq] at hg
      rw [if_pos ⟨by omega, by omega⟩] at hg
      rw [show p + j - p = j by omega] at hg
      obtain ⟨a, ha⟩ : ∃ a : Nat, l[p + j]'(by omega) = (a : Int) := ⟨(l[p + j]'(by omega)).toNat, by omega⟩
      rw [ha, Int.toNat_natCast] at hg
      have h2 : a = a ^^^ byteOf bits j := by omega
      have h3 := congrArg (a ^^^ ·) h2
      simp only [← Nat.xor_assoc, Nat.xor_self, Nat.zero_xor] at h3
      exact h3.symm
    have z0 := hz 0 (by omega)
    have z1 := hz 1 (by omega)
    have z2 := hz 2 (by omega)
    have z3 := hz 3 (by omega)
    simp only [byteOf, Nat.pow_zero, Nat.pow_one, Nat.div_one] at z0 z1 z2 z3
    have : (256 : Nat) ^ 2 = 65536 := by decide
    have : (256 : Nat) ^ 3 = 16777216 := by decide
    omega
  exact ⟨hne, fun he => hne (turned_tell hl at' bits he)⟩
theorem St.good {l : List Int} {b : BSt} (h : St l b) (hl : Byt l) (h256 : l.length = 256) : b.good l = b.right (crcOf (nats l)) := by
  unfold BSt.good BSt.right
  rcases h with ⟨h, hn⟩ | ⟨h, hf, hfl, hh⟩ | ⟨a, z, h, hf, hfl, h0, h1, hb, hb2, hh⟩ | ⟨h, hf, hfl⟩
  · have e : b.read = (0, l) := by unfold BSt.read; rw [if_pos h, hn]
    rw [e]; simp [same_self]
  · have e : b.read = (0, l) := by unfold BSt.read; rw [if_neg (by rw [h]; decide), if_neg (by rw [hfl]; decide), hh]
    rw [e]; simp [same_self]
  · have e : b.read = (0, turned l a z) := by unfold BSt.read; rw [if_neg (by rw [h]; decide), if_neg (by rw [hfl]; decide), hh]
    have ht := turned_other hl h256 h0 h1 hb hb2
    rw [e]; simp [sameB, ht.1, ht.2]
  · have e : b.read = (107, []) := by unfold BSt.read; rw [if_neg (by rw [h]; decide), if_pos hfl]
    rw [e]; rfl
/-- .. and what is right is what was written -/
theorem St.right {l : List Int} {b : BSt} (h : St l b) (hl : Byt l) (h256 : l.length = 256) (hr : b.right (crcOf (nats l)) = true) : b.read = (0, l) := by
  rw [← h.good hl h256] at hr
  unfold BSt.good at hr
  simp only [Bool.and_eq_true, beq_iff_eq, sameB, decide_eq_true_eq] at hr
  exact Prod.ext hr.1 hr.2
end Go.Proofs.YtfdabbpfphnbhaaDoor
