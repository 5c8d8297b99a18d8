/- strings.Split at a slash, HasPrefix, HasSuffix, Contains, Join and a Builder, as package path calls them. -/
import Derived.Test.YtjoajjndopfbmaaDoorGNmE
import Derived.Test.YtjoajjndopfbmaaDoorGPaA
namespace Go.Proofs.YtjoajjndopfbmaaDoor
open Go.RowKit Go.Shelf Go.Lib

abbrev sl1 : ByteArray := ⟨#[47]⟩
theorem splitB_sg (s : ByteArray) : (splitB sl1 0 (countB s sl1) s).map (·.data.toList) = sg [] s.data.toList := by
  rw [splitB_data]
  exact splitK_sg _ _ rfl
theorem genSplit_any (s : ByteArray) (w : World) (hs : s.size < 4294967281) :
    Calls Tryd.prog 30 #[.string s, .string sl1, .int .i64 0, .int .i64 (-1)] w fun e w' =>
      e = .returned (.slice (some ⟨w.heap.size, 0, none⟩) (splitB sl1 0 (countB s sl1) s).length (countB s sl1 + 1)) ∧ w' = w.alloc (.cells (cellsOf (splitB sl1 0 (countB s sl1) s) (countB s sl1 + 1)) 9) := by
  have hle := countB_le sl1 (by decide) s.size s (Nat.le_refl _)
  have c := Any.strings_genSplit_core Tryd.lays221 (by kernel_rfl) s sl1 0 (-1) (countB s sl1 + 1) w hs (by decide) (Nat.zero_le _)
    (fun x c _ => by
      have := Any.strings_Index_one { Tryd.lays221 with } x 47 (w.alloc (.cells c 9))
      refine this.mono fun e w' ⟨he, hw⟩ => ⟨?_, hw⟩
      rw [he]
      have e1 := Lib.one x sl1 rfl
      rw [e1]
      rfl)
    (by
      refine (Any.strings_Count_one { Tryd.lays221 with } s 47 w).mono fun e w' ⟨he, hw⟩ => ⟨?_, hw⟩
      rw [he]
      show _ = Ending.returned (Value.int .i64 ((Lib.count s.data.toList [47] : Nat) : Int))
      rw [Lib.count_one]
      rfl) (by decide) (by decide) (by rw [if_pos (by decide)]; omega)
  rwa [Nat.add_sub_cancel] at c
/-- a slice of the parts -/
theorem split_any (s : ByteArray) (w : World) (hs : s.size < 4294967281) :
    Calls Tryd.prog 19 #[.string s, .string sl1] w fun e w' =>
      ∃ ad n c, e = .returned (.slice (some ad) n c) ∧ ad.block = w.heap.size ∧ St w' w'.heap.size (some ad) n c (sg [] s.data.toList) ∧ Below w.heap.size w w' := by
  have hle := countB_le sl1 (by decide) s.size s (Nat.le_refl _)
  have hlen := splitB_all sl1 (by decide) 0 _ s rfl
  have hcf : cellsOf (splitB sl1 0 (countB s sl1) s) (countB s sl1 + 1) = ((splitB sl1 0 (countB s sl1) s).map Value.string).toArray := by rw [← hlen]; exact cellsOf_full _
  have hsg := splitB_sg s
  have c := genSplit_any s w hs
  rw [hcf, hlen] at c
  go_enter Tryd.func19, Tryd.ntmps19
  go_wp2_with (refine c.mono ?_)
  rintro e w' ⟨rfl, rfl⟩
  go_wp2
  go_ret
  refine ⟨_, _, _, rfl, rfl, ⟨?_, Nat.le_refl _, by unfold maxLen; omega, fun h => (by cases h), fun ad ha _ => ?_⟩, ?_⟩
  · rw [Tx_len, ← hsg, List.length_map, hlen]
  · cases ha
    refine ⟨by simp [World.size_alloc], fun j u hu => ?_⟩
    obtain ⟨x, hx, rfl⟩ := Tx_get' hu
    rw [← hsg, List.getElem?_map, Option.map_eq_some_iff] at hx
    obtain ⟨b, hb, rfl⟩ := hx
    have hz : (⟨w.heap.size, 0, none⟩ : Addr).add j = ⟨w.heap.size, j, none⟩ := by
      rcases Nat.eq_zero_or_pos j with rfl | hj
      · rfl
      · simp [Addr.add]; omega
    rw [hz, World.cell?_alloc_new]
    simp [encStr, hb]
  · exact (Below.refl _ _).alloc (Nat.le_refl _) _
end Go.Proofs.YtjoajjndopfbmaaDoor
