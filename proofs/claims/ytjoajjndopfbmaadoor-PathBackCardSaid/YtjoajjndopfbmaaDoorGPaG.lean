/- Package path's Join: a Builder written part by part. -/
import Derived.Test.YtjoajjndopfbmaaDoorGPaF
namespace Go.Proofs.YtjoajjndopfbmaaDoor
open Go.RowKit Go.Shelf Go.Lib

abbrev Bu (B b : Nat) (l : Nam) (w : World) : Prop := IsBuilder 60 5 B b (byteCells l) w
theorem strCells_of (s : ByteArray) : strCells s = byteCells s.data.toList := rfl
theorem byteCells_app (x y : Nam) : byteCells (x ++ y) = byteCells x ++ byteCells y := by simp [byteCells]
theorem bu_write (B b : Nat) (l : Nam) (s : ByteArray) (w : World) (h : Bu B b l w) (hlen : l.length + s.size ≤ 100000000) (hB : B ≤ w.heap.size) :
    Calls Tryd.prog 26 #[.pointer (some ⟨b, 0, none⟩), .string s] w fun e w' => (∃ v, e = .returned v) ∧ Bu B b (l ++ s.data.toList) w' ∧ Below B w w' := by
  refine (Any.Builder_WriteString { Tryd.lays156 with } Tryd.Builder_Extra_156 B b (byteCells l) s w h (by rw [byteCells_length]; omega) hB).mono ?_
  rintro e w' ⟨rfl, h1, h2⟩
  refine ⟨⟨_, rfl⟩, .inr ?_, h2⟩
  rw [byteCells_app, ← strCells_of]
  exact h1
theorem bu_string (B b : Nat) (l : Nam) (w : World) (h : Bu B b l w) (hB : B ≤ w.heap.size) :
    Calls Tryd.prog 27 #[.pointer (some ⟨b, 0, none⟩)] w fun e w' => e = .returned (encStr l) ∧ Below B w w' :=
  Any.Builder_String_any { Tryd.lays156 with } Tryd.Builder_Extra_156 B b l w h hB
theorem slashed_next {l : List Nam} {k : Nat} {x : Nam} (h : l[k]? = some x) : slashed (l.take (k + 1)) = slashed (l.take k) ++ 47 :: x := by
  rw [takeN h]
  simp [slashed]
theorem slashed_le (l : List Nam) (h : ∀ x ∈ l, x.length ≤ 1000) : (slashed l).length ≤ 1001 * l.length := by
  induction l with
  | nil => exact Nat.zero_le _
  | cons y l ih =>
    have h1 := ih (fun x hx => h x (by simp [hx]))
    have h2 := h y (by simp)
    have e : slashed (y :: l) = 47 :: (y ++ slashed l) := by simp [slashed]
    rw [e]
    simp only [List.length_cons, List.length_append]
    omega
set_option maxRecDepth 100000 in
set_option maxHeartbeats 1000000 in
theorem pathJoin_any (s : Nam) (A : Option Addr) (n c B : Nat) (l : List Nam) (w : World) (h : St w B A n c l) (hB : B ≤ w.heap.size) (hn : n ≤ 1000) (hx : ∀ x ∈ l, x.length ≤ 1000) (hs : s.length ≤ 1000000) :
    Calls Tryd.prog 17 #[encStr s, .slice A n c] w fun e w' => e = .returned (encStr (s ++ slashed l)) ∧ Below w.heap.size w w' := by
  have HS := hid h
  have HX := hid hx
  have HN := hid h.size
  have hsz := sz_of' s
  clear h hx
  go_enter Tryd.func17, Tryd.ntmps17
  go_wp2_with fail
  refine (bu_write w.heap.size w.heap.size [] ⟨s.toArray⟩ _ (fresh_isBuilder 60 5 w) (by simp; omega) (by simp [World.size_alloc])).mono ?_
  rintro e w1 ⟨⟨v, rfl⟩, hbu, hb⟩
  have HBU := hid (show Bu w.heap.size w.heap.size (s ++ slashed (l.take 0)) w1 by simpa [slashed] using hbu)
  have HB := hid (show Below w.heap.size w w1 from ((Below.refl _ _).alloc (Nat.le_refl _) _).trans hb)
  clear hbu hb
  have hmx : n ≤ 9223372036854775807 := by omega
  go_wp2
  go_loopw [12] (fun i wr => ∃ k : Nat, k ≤ n ∧ i = .int .i64 (k : Int) ∧ Hid (Bu w.heap.size w.heap.size (s ++ slashed (l.take k)) wr) ∧ Hid (Below w.heap.size w wr)) (fun i _ => n - (RowKit.intOf i).toNat)
  case atStart => exact ⟨0, Nat.zero_le _, rfl, HBU, HB⟩
  case round =>
    obtain ⟨k, hk, rfl, HU, HW⟩ := hrel
    have HL := hid (show (s ++ slashed (l.take k)).length ≤ 3000000 by
      have := slashed_le (l.take k) (fun y hy => HX.out y (List.mem_of_mem_take hy))
      rw [List.length_take] at this
      rw [List.length_append]; omega)
    by_cases hlt : k < n
    · obtain ⟨ad, x, rfl, hbl, hx, hc⟩ := St.at (Sv.below HS.out (HW.out.mono hB)) hlt
      have HXX := hid hx
      have hxl := HX.out x (List.mem_of_getElem? hx)
      have hxs := sz_of' x
      clear hx hbl
      go_wp2_with fail
      refine (bu_write w.heap.size w.heap.size _ sl1 wr HU.out (by have := HL.out; show _ + 1 ≤ _; omega) HW.out.size).mono ?_
      rintro e w2 ⟨⟨v2, rfl⟩, hbu, hb⟩
      have HU2 := hid hbu
      have HW2 := hid (HW.out.trans (hb.mono (Nat.le_refl _)))
      clear hbu hb
      go_wp2_with fail
      refine (bu_write w.heap.size w.heap.size _ ⟨x.toArray⟩ w2 HU2.out (by have := HL.out; rw [List.length_append]; show _ + 1 + _ ≤ _; omega) HW2.out.size).mono ?_
      rintro e w3 ⟨⟨v3, rfl⟩, hbu, hb⟩
      have HU3 := hid (show Bu w.heap.size w.heap.size (s ++ slashed (l.take (k + 1))) w3 by
        rw [slashed_next HXX.out]
        have := hbu
        simpa using this)
      have HW3 := hid (HW2.out.trans (hb.mono (Nat.le_refl _)))
      clear hbu hb
      go_wp2
      go_roundw
      case rel => exact ⟨k + 1, by omega, by go_num, HU3, HW3⟩
      case measure => simp [RowKit.intOf]; omega
    · have hfull : l.take k = l := List.take_of_length_le (by rw [HN.out]; omega)
      rw [hfull] at HU
      clear hfull
      go_wp2_with fail
      refine (bu_string w.heap.size w.heap.size _ wr HU.out HW.out.size).mono ?_
      rintro e w2 ⟨rfl, hb⟩
      have HW2 := hid (HW.out.trans hb)
      clear hb
      go_wp2
      go_ret
      exact ⟨rfl, HW2.out⟩
end Go.Proofs.YtjoajjndopfbmaaDoor
