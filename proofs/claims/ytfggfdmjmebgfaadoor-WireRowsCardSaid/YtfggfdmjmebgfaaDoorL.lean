/- WirePuts answers true where its bytes or its text are longer than it asks; what is read and known stays known behind a call. Conditions: as said in each. -/
import Derived.Test.YtfggfdmjmebgfaaDoorK
namespace Go.Proofs.YtfggfdmjmebgfaaDoor
open Go.RowKit

theorem Sl.on {w w' : World} {A : Option Addr} {n c : Nat} {l : List Int} (h : Sl w w.heap.size A n c l) (hb : Below w.heap.size w w') : Sl w' w'.heap.size A n c l := (h.below hb).more hb.size
theorem Rdr.on {w w' : World} {g n c : Nat} {A : Option Addr} {l : List Int} {p : Int} {ev : Value} (h : Rdr w g A n c l p ev) (hb : Below w.heap.size w w') : Rdr w' g A n c l p ev :=
  ⟨h.blk.below hb h.blk.lt, h.sl.below (hb.mono (Nat.le_of_lt h.blk.lt))⟩
theorem Errs.on {w w' : World} {aR aE aS : Addr} {B : Nat} (h : Errs w aR aE aS) (hB : 3 ≤ B) (hb : Below B w w') : Errs w' aR aE aS :=
  ⟨(hb.cell (by simp; omega)).trans h.range, (hb.cell (by simp; omega)).trans h.ends, (hb.cell (by simp; omega)).trans h.shape⟩
theorem Errs.only {w w' : World} {aR aE aS : Addr} {g : Nat} (h : Errs w aR aE aS) (hg : 3 ≤ g) (hb : w.grownBy w' (some g)) : Errs w' aR aE aS :=
  ⟨hb.cell h.range (by simp; omega), hb.cell h.ends (by simp; omega), hb.cell h.shape (by simp; omega)⟩
theorem Errs.drewN {w : World} {aR aE aS : Addr} (h : Errs w aR aE aS) (k : Nat) : Errs (w.drewN k) aR aE aS := ⟨h.range, h.ends, h.shape⟩
theorem str_of (s : ByteArray) : strOfNums (str s) = s := by
  obtain ⟨⟨l⟩⟩ := s
  simp only [strOfNums, str, List.map_map]
  congr 1
  congr 1
  conv => rhs; rw [← List.map_id l]
  apply List.map_congr_left
  intro b _
  simp
theorem str_byt (s : ByteArray) : Byt (str s) := by
  intro x hx
  simp only [str, List.mem_map] at hx
  obtain ⟨b, _, rfl⟩ := hx
  have := UInt8.toNat_lt b
  omega
theorem unzz_zz' (n : Int) : unzz (zz n) = n := unzz_zz n
theorem size_drewN (w : World) (k : Nat) : (w.drewN k).heap.size = w.heap.size := rfl

set_option maxRecDepth 100000 in
set_option maxHeartbeats 2000000 in
theorem wirePuts_far (A : Option Addr) (n c : Nat) (x : Int) (s : ByteArray) (w : World) (hn : n ≤ 9223372036854775807) (hs : s.size ≤ 9223372036854775807) (hfar : 100 < n ∨ 100 < s.size) :
    Calls Tryd.prog 3 #[.slice A n c, .int .i64 x, .string s] w (Yes w) := by
  rcases Nat.lt_or_ge 100 n with h | h
  all_goals
    first
      | have d0 : decide ((100 : Int) < n) = true := by simp; omega
      | (have d0 : decide ((100 : Int) < n) = false := by simp; omega
         have d1 : decide ((100 : Int) < s.size) = true := by simp; omega)
    clear hfar
    go_enter Tryd.func3, Tryd.ntmps3
    go_wp2_with fail
    refine (first_any w).mono ?_
    rintro e w1 ⟨rfl, hb⟩
    have HB := hid hb
    clear hb
    go_wp2
    go_ret
    exact ⟨rfl, HB.out⟩
end Go.Proofs.YtfggfdmjmebgfaaDoor
