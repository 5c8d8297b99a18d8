/- The laws' own helpers on roots: made, same, first, list. -/
import Derived.Test.YthgdofcamjkdpaaDoorGRootK
import Derived.Test.YthgdofcamjkdpaaDoorGRootJ
namespace Go.Proofs.YthgdofcamjkdpaaDoor
open Go.RowKit

/-- a ref, as the laws make it of a number -/
def sumZ (x : Int) : Int := x % 4294967296 * 2654435761 % 4294967296
theorem sumZ_pos (x : Int) : 0 ≤ sumZ x := Int.emod_nonneg _ (by omega)
theorem sumZ_lt (x : Int) : sumZ x < 4294967296 := Int.emod_lt_of_pos _ (by omega)
def mkRef (x : Int) : Int × Nat := (x, (sumZ x).toNat)
theorem mkRef_sum (x : Int) : (((mkRef x).2 : Nat) : Int) = sumZ x := Int.toNat_of_nonneg (sumZ_pos x)
def mkR (l : List Int) : List (Int × Nat) := l.map mkRef
theorem mkR_sums (l : List Int) : Sums (mkR l) := by
  intro x hx
  simp only [mkR, List.mem_map] at hx
  obtain ⟨y, _, rfl⟩ := hx
  have h1 := mkRef_sum y
  have h2 := sumZ_lt y
  omega
theorem mkR_len (l : List Int) : (mkR l).length = l.length := by simp [mkR]
theorem mkR_next {l : List Int} {k : Nat} {x : Int} (h : l[k]? = some x) : mkR (l.take (k + 1)) = mkR (l.take k) ++ [mkRef x] := by rw [take_next h]; simp [mkR]
/-- the root of an epoch and of refs -/
def mkRoot (e : Int) (l : List Int) : RSt := ⟨e, mkR l⟩
/-- a new root -/
def MadeR (w : World) (r : RSt) (e : Ending) (w' : World) : Prop := ∃ o : RV, e = .returned o.v ∧ o.Is r w' ∧ Below w.heap.size w w' ∧ ∀ ad, o.A = some ad → w.heap.size ≤ ad.block
set_option maxRecDepth 100000 in
set_option maxHeartbeats 4000000 in
theorem made_any (e : Int) (A : Option Addr) (n c : Nat) (l : List Int) (w : World) (h : Sn w w.heap.size A n c l) (hn : n ≤ 2000000) :
    Calls Tryd.prog 7 #[.int .i64 e, .slice A n c] w (MadeR w (mkRoot e l)) := by
  obtain ⟨i0, hi, hz0, hz1, hz2⟩ := info_parts Tryd.infoRef
  have HL := hid h
  have HN := hid hn
  have HB0 := hid (show Below w.heap.size w ((w.alloc (.cells #[.int .i64 0, .slice none 0 0] 31)).alloc (.cells #[.int .i64 e, .slice none 0 0] 31)) from ((Below.refl _ _).alloc (Nat.le_refl _) _).alloc (by simp) _)
  have HK4 := hid (show Blk ((w.alloc (.cells #[.int .i64 0, .slice none 0 0] 31)).alloc (.cells #[.int .i64 e, .slice none 0 0] 31)) w.heap.size 31 #[.int .i64 0, .slice none 0 0] from (Blk.new w _ _).alloc _)
  have HK5 := hid (show Blk ((w.alloc (.cells #[.int .i64 0, .slice none 0 0] 31)).alloc (.cells #[.int .i64 e, .slice none 0 0] 31)) (w.heap.size + 1) 31 #[.int .i64 e, .slice none 0 0] from by
    have := Blk.new (w.alloc (.cells #[.int .i64 0, .slice none 0 0] 31)) 31 #[.int .i64 e, .slice none 0 0]
    simpa using this)
  clear h hn
  go_enter Tryd.func7, Tryd.ntmps7
  go_wp2
  go_loopw [6] (fun i wr => ∃ (k : Nat) (v : Value), k ≤ n ∧ i = .int .i64 (k : Int) ∧ OwnR wr (w.heap.size + 2) v (mkR (l.take k)) ∧ Blk wr (w.heap.size + 1) 31 #[.int .i64 e, v] ∧ Blk wr w.heap.size 31 #[.int .i64 0, .slice none 0 0] ∧ Below w.heap.size w wr) (fun i _ => n - (intOf i).toNat)
  case atStart => exact ⟨0, .slice none 0 0, Nat.zero_le _, rfl, by simpa [mkR] using OwnR.nil _ _, HK5.out, HK4.out, HB0.out⟩
  case round =>
    obtain ⟨k, v, hk, rfl, hown, hk5, hk4, hb⟩ := hrel
    have HOw := hid hown
    have HKa := hid hk5
    have HKb := hid hk4
    have HBr := hid hb
    have c1 := hk5.cell 1
    have f1 := hk5.free 1
    simp at c1
    clear hown hk4 hb
    by_cases hlt : k < n
    · obtain ⟨ad, x, rfl, hbl, hx, hc⟩ := (HL.out.below HBr.out).get hlt
      have HX := hid (mkR_next hx)
      have HZ := hid (mkRef_sum x)
      have hkn : (k : Int) < n := by omega
      have hn9 : (n : Int) ≤ 2000000 := by have := HN.out; omega
      obtain ⟨Z, hZ⟩ : ∃ Z : Int, sumZ x = Z := ⟨_, rfl⟩
      have HZ2 := hid hZ
      rw [hZ] at HZ
      replace hZ : IntKind.u32.wrap (IntKind.u32.wrap x * 2654435761) = Z := by rw [IntKind.wrap_u32, IntKind.wrap_u32]; exact hZ
      obtain ⟨m, hm⟩ : ∃ m, (mkR (l.take k)).length = m := ⟨_, rfl⟩
      have HM := hid (show m ≤ 2000000 from by rw [← hm, mkR_len, List.length_take]; omega)
      have HMe := hid hm
      have hof := hid (show wr.ownsRow (w.heap.size + 2) 56 2 v m (cellsR (mkR (l.take k))) from hm ▸ HOw.out)
      have hlk := hk5.lt
      have hsz := HBr.out.size
      have cA := (World.cell?_alloc_lt wr (.cells #[.int .i64 x, .int .u32 Z] 56) ⟨w.heap.size + 1, 1, none⟩ hlk).trans c1
      have cB := (World.cell?_alloc_lt wr (.cells #[.int .i64 x, .int .u32 Z] 56) (ad.add k) (by rw [add_block]; omega)).trans hc
      have hnews := hid (show ∀ (j : Nat) (u : Value), [Value.int .i64 x, .int .u32 Z][j]? = some u → (wr.alloc (.cells #[.int .i64 x, .int .u32 Z] 56)).drew.cell? ((⟨wr.heap.size, 0, none⟩ : Addr).add j) = some u from fun j u hu => by
        have e : (⟨wr.heap.size, 0, none⟩ : Addr).add j = ⟨wr.heap.size, j, none⟩ := by unfold Addr.add; split <;> simp_all
        rw [e]
        show (wr.alloc _).cell? _ = _
        rw [(Blk.new wr 56 #[.int .i64 x, .int .u32 Z]).cell j]
        simpa using hu)
      have HStep := hid (fun (w2 : World) (hg : (wr.alloc (.cells #[.int .i64 x, .int .u32 Z] 56)).drew.grownBy w2 v.ownBlock) =>
        (show Blk w2 (w.heap.size + 1) 31 #[.int .i64 e, v] ∧ Blk w2 w.heap.size 31 #[.int .i64 0, .slice none 0 0] ∧ Below w.heap.size w w2 from by
          have hlt := OwnR.lt HOw.out
          have hb2 : Below w.heap.size w (wr.alloc (.cells #[.int .i64 x, .int .u32 Z] 56)).drew := (HBr.out.alloc HBr.out.size _).drew
          refine ⟨(HKa.out.alloc _).drew.grown hg (fun h => by have := hlt _ h.symm; omega), (HKb.out.alloc _).drew.grown hg (fun h => by have := hlt _ h.symm; omega), hb2.grown hg hb2.size (fun k hk => by have := hlt k hk; omega)⟩))
      clear hx hm hbl hk5
      go_wp2_with fail
      go_region_law (refine step_append_lies _ rfl (.tmp 16) (.tmp 28) 29 rfl (w.heap.size + 2) 56 i0 (.agg #[.int .i64 0, .int .u32 0]) 2 16 Tryd.underlying29 hi hz0 hz1 hz2 rfl (by decide) v m (cellsR (mkR (l.take k))) (by simp [Act.eval]) (World.ownsRow.alloc hof.out _) ⟨wr.heap.size, 0, none⟩ 1 1 [.int .i64 x, .int .u32 Z] (by simp [Act.eval]) rfl hnews.out (by intro u hu; simp at hu; rcases hu with rfl | rfl <;> rfl) (by omega) (by have := HM.out; unfold maxLen; omega) (by have := HM.out; omega) (by simp; omega) _ rfl ?_; intro g cap w2 hown hgrow hat _; have hst := HStep.out w2 hgrow; have HSt := hid hst; have d1 := hst.1.cell 1; have f2 := hst.1.free 1; have HOn := hid (ownsRow_setCell_below hown (a := ⟨w.heap.size + 1, 1, none⟩) (by show w.heap.size + 1 < w.heap.size + 2; omega) (.slice (some ⟨g, 0, none⟩) (m + 1) cap)); clear hst hown hgrow hat)
      all_goals
        have HOn2 := hid (show OwnR (w2.setCell ⟨w.heap.size + 1, 1, none⟩ (.slice (some ⟨g, 0, none⟩) (m + 1) cap)) (w.heap.size + 2) (.slice (some ⟨g, 0, none⟩) (m + 1) cap) (mkR (l.take (k + 1))) from by
          have hh := HOn.out
          have e2 : (mkR (l.take (k + 1))).length = m + 1 := by rw [HX.out, List.length_append, HMe.out]; rfl
          have e3 : cellsR (mkR (l.take (k + 1))) = cellsR (mkR (l.take k)) ++ [.int .i64 x, .int .u32 Z] := by rw [HX.out, cellsR_append]; simp [cellsR, cells2]; exact ⟨rfl, HZ.out⟩
          unfold OwnR
          rw [e2, e3]
          exact hh)
        have HK6 := hid (show Blk (w2.setCell ⟨w.heap.size + 1, 1, none⟩ (.slice (some ⟨g, 0, none⟩) (m + 1) cap)) (w.heap.size + 1) 31 #[.int .i64 e, .slice (some ⟨g, 0, none⟩) (m + 1) cap] from by
          have := HSt.out.1.put 1 (.slice (some ⟨g, 0, none⟩) (m + 1) cap)
          simpa using this)
        have HK7 := hid (HSt.out.2.1.far (p := ⟨w.heap.size + 1, 1, none⟩) (by show w.heap.size ≠ w.heap.size + 1; omega) (.slice (some ⟨g, 0, none⟩) (m + 1) cap))
        have HB7 := hid (HSt.out.2.2.setCell (p := ⟨w.heap.size + 1, 1, none⟩) (by show w.heap.size ≤ w.heap.size + 1; omega) (.slice (some ⟨g, 0, none⟩) (m + 1) cap))
        clear cA cB hnews hof d1 f2 c1 f1
        go_wp2
        go_roundw
        case rel => exact ⟨k + 1, _, by omega, by go_num, HOn2.out, HK6.out, HK7.out, HB7.out⟩
        case measure => simp [intOf]; omega
    · have hnlt : decide (k < n) = false := by simpa using hlt
      obtain ⟨A', c', hv, hrf, hfr⟩ := HOw.out.form
      have hkl : mkR (l.take k) = mkR l := by rw [List.take_of_length_le (by rw [HL.out.len]; omega)]
      rw [hkl] at hv hrf
      have k0 := HKa.out.cell 0
      have r0 := HKb.out.cell 0
      have r1 := HKb.out.cell 1
      have fr := fun i => HKb.out.free i
      obtain ⟨m, hm⟩ : ∃ m, (mkR l).length = m := ⟨_, rfl⟩
      rw [hm] at hv hrf
      subst hv
      have HKn := box_put HKb.out rfl (.int .i64 e) (.slice A' m c')
      have m0 := HKn.cell 0
      have m1 := HKn.cell 1
      simp at k0 r0 r1 m0 m1
      have HRf := hid (rf_box hrf (g := w.heap.size) (fun ad ha _ => by have := hfr ad ha; omega) (.int .i64 e) (.slice A' m c'))
      have HBf := hid (below_box HBr.out (Nat.le_refl _) (.int .i64 e) (.slice A' m c'))
      have HFr := hid hfr
      clear HKn hrf hfr hm hk5
      go_wp2
      exact bodyPost_ret (v := rtV e A' m c') (by simp [results, Tryd.results7, go_sem, m0, m1]) rfl ⟨⟨e, A', m, c'⟩, rfl, ⟨rfl, HRf.out⟩, HBf.out, fun ad ha => by have := HFr.out ad ha; omega⟩
end Go.Proofs.YthgdofcamjkdpaaDoor
