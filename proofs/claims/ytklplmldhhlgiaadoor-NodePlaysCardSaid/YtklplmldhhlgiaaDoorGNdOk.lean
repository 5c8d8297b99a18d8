/- Package node: All, Clone; its table keeps what package node has to keep. -/
import Derived.Test.YtklplmldhhlgiaaDoorGNeE
namespace Go.Proofs.YtklplmldhhlgiaaDoor
open Go.RowKit Go.Maps Go.Sort Go.Shelf

/-- the sorted numbers -/
theorem ids_sorted {w : World} {b : Nat} {D : DataW Unit} {L : List Nd} {ss : List Int} (h : w.ownsMap Tryd.prog 3 ndR b (Maps.size D) D) (hm : TabM D L) (hr : Rising L) (hs : ss.Perm (intKeys D)) : ss.mergeSort (fun x y => decide (x ≤ y)) = L.map (·.id) := by
  obtain ⟨es, hD, hpw, _⟩ := h.entries lawN
  obtain ⟨es', hD', hko⟩ := h.keysOf
  obtain rfl : es = es' := by rw [hD] at hD'; simpa using hD'
  subst hD
  have hperm : (L.map (·.id)).Perm (intKeys (.map es)) := by
    refine perm_intKeys hpw (fun p hp' => ?_) ?_ (fun x => ?_)
    · obtain ⟨v, hv⟩ := hko p hp'
      obtain ⟨x, _, hx, _⟩ := Maps.keyOf_i64 Tryd.underlying3 hv
      exact ⟨x, hx⟩
    · refine List.pairwise_map.2 (hr.imp (fun {a b} hab => ?_))
      omega
    · have h1 := hm.has x
      have h2 := isInN_iff (L := L) (z := x)
      rw [← h1] at h2
      rw [List.mem_map]
      exact h2.symm
  have e1 := mergeSort_of_perm_i (hs.trans hperm.symm)
  refine e1.trans (List.mergeSort_of_pairwise ?_)
  refine List.pairwise_map.2 (hr.imp (fun {a b} hab => ?_))
  simp only [leI, decide_eq_true_eq]
  omega
theorem OwnN.lowerTo {w : World} {B B' : Nat} {v : Value} {l : List Int} (h : OwnN w B v l) (hB : B' ≤ B) : OwnN w B' v l := by
  refine ⟨h.1, ?_⟩
  rcases h.2 with h0 | ⟨g, cap, cur, rfl, hb, hg, hr⟩
  · exact .inl h0
  · exact .inr ⟨g, cap, cur, rfl, Nat.le_trans hB hb, hg, hr⟩
section
variable {w : World} {g : Nat} {T : Tab} {F : Nat → Prop}
set_option maxRecDepth 100000 in
set_option maxHeartbeats 1000000 in
theorem tabAll_any (h : TabN w g T F) :
    Calls Tryd.prog 17 #[.pointer (some ⟨g, 0, none⟩)] w fun r w' => (∃ v, r = .returned v ∧ OwnN w' w.heap.size v (T.L.map (·.id))) ∧ Below w.heap.size w w' := by
  obtain ⟨mb, D, hbx, hM, hT, hap⟩ := h.box
  have c0 := hbx.cell 0
  simp at c0
  have hr := h.is.ris
  have hlen := h.is.len
  have HM := hid (hM.on ((Below.refl _ _).alloc (Nat.le_refl _) (.cells #[.map mb] 25)))
  have HT := hid hT
  have HR := hid hr
  have HG := hid (show (w.alloc (.cells #[.map mb] 25)).cell? ⟨w.heap.size, 0, none⟩ = some (.map mb) from by
    have := (Blk.new w 25 #[.map mb]).cell 0
    rw [this]
    rfl)
  have HB := hid ((Below.refl w.heap.size w).alloc (Nat.le_refl _) (.cells #[.map mb] 25))
  clear hM hT hap hr hbx h
  go_enter Tryd.func17, Tryd.ntmps17
  go_wp2_with fail
  refine (keys_any mb _).mono ?_
  rintro e w1 ⟨rfl, rfl⟩
  clear c0
  go_wp2_with fail
  rcases mb with _ | b
  · refine (sortedNil_any w.heap.size _ HG.out).mono ?_
    rintro e w2 ⟨v, rfl, ho, hb⟩
    have hL : T.L = [] := by
      have h1 := HT.out.size
      have h2 : D = .map [] := HM.out
      rw [h2] at h1
      exact List.length_eq_zero_iff.1 h1.symm
    have HO := hid (show OwnN w2 w.heap.size v (T.L.map (·.id)) from by rw [hL]; exact OwnN.lowerTo ho (by simp))
    have HB2 := hid (HB.out.trans (hb.mono HB.out.size))
    clear ho hb hL
    go_wp2
    go_ret
    exact ⟨⟨_, rfl, HO.out⟩, HB2.out⟩
  · refine (sorted_any w.heap.size b _ D ndR _ HG.out HM.out (by rw [HT.out.size]; omega)).mono ?_
    rintro e w2 ⟨v, ss, rfl, hpm, ho, hb⟩
    rw [ids_sorted HM.out HT.out HR.out hpm] at ho
    have HO := hid (show OwnN w2 w.heap.size v (T.L.map (·.id)) from OwnN.lowerTo ho (by simp))
    have HB2 := hid (HB.out.trans (hb.mono HB.out.size))
    clear ho hb hpm
    go_wp2
    go_ret
    exact ⟨⟨_, rfl, HO.out⟩, HB2.out⟩
set_option maxRecDepth 100000 in
set_option maxHeartbeats 1000000 in
theorem tabClone_any (h : TabN w g T F) :
    Calls Tryd.prog 7 #[.pointer (some ⟨g, 0, none⟩)] w fun r w' => Below w.heap.size w w' ∧ ∃ q F2, r = .returned (.pointer (some ⟨q, 0, none⟩)) ∧ TabN w' q T F2 ∧ ∀ k, F2 k → w.heap.size ≤ k := by
  obtain ⟨mb, D, hbx, hM, hT, hap⟩ := h.box
  have c0 := hbx.cell 0
  have c1 := hbx.cell 1
  simp at c0 c1
  have his := h.is
  have hgl := h.lt g h.own
  have HT := hid hT
  have HI := hid his
  rcases mb with _ | b
  · obtain rfl : D = .map [] := hM
    clear hT hap hbx h his
    go_enter Tryd.func7, Tryd.ntmps7
    go_wp2_with fail
    go_region_held3 (fun w' => w'.cell? ⟨g, 0, none⟩ = some (.map none) ∧ w'.cell? ⟨g, 1, none⟩ = some (.int .i64 T.last)) (first | exact ⟨c0, c1⟩ | go_keep) (first | (go_at_call 20; refine (cloneNil_any _).mono ?_; rintro e w2 ⟨rfl, rfl⟩))
    go_wp2
    go_ret
    have hb : Below w.heap.size w (w.alloc (.cells #[.map none, .int .i64 T.last] 27)).drew := ((Below.refl _ _).alloc (Nat.le_refl _) _).drew
    exact ⟨hb, w.heap.size, fun k => k = w.heap.size, rfl, ⟨⟨none, .map [], (Blk.new w _ _).drew, rfl, HT.out, fun _ h => by cases h⟩, rfl, fun k hk => by show k < (w.alloc _).heap.size; simp; omega, HI.out⟩, fun k hk => by omega⟩
  · have HMd := hid (show w.drew.ownsMap Tryd.prog 3 ndR b (Maps.size D) D from hM)
    clear hT hap hbx h his hM
    go_enter Tryd.func7, Tryd.ntmps7
    go_wp2_with fail
    go_region_held3 (fun w' => w'.cell? ⟨g, 0, none⟩ = some (.map (some b)) ∧ w'.cell? ⟨g, 1, none⟩ = some (.int .i64 T.last)) (first | exact ⟨c0, c1⟩ | exact ⟨d0, d1⟩ | go_keep) (first | (go_at_call 20; refine (cloneN_any ndR b _ D _ HMd.out).mono ?_; rintro e w2 ⟨rfl, ho, hb⟩; have d0 := (hb.cell (p := ⟨g, 0, none⟩) hgl).trans c0; have d1 := (hb.cell (p := ⟨g, 1, none⟩) hgl).trans c1; have HO := hid ho; have HB := hid hb; clear ho hb))
    go_wp2
    go_ret
    have ho : w2.ownsMap Tryd.prog 3 ndR w.heap.size (Maps.size D) D := HO.out
    have hb2 : Below w.heap.size w w2 := ⟨HB.out.os, HB.out.tape, HB.out.output, HB.out.size, HB.out.block⟩
    have hlt : w.heap.size < w2.heap.size := ho.lt
    refine ⟨hb2.alloc hb2.size _, w2.heap.size, fun k => k = w2.heap.size ∨ k = w.heap.size, rfl, ⟨⟨some w.heap.size, D, Blk.new w2 _ _, ho.alloc _, HT.out, fun b' hb' => ?_⟩, .inl rfl, fun k hk => ?_, HI.out⟩, fun k hk => ?_⟩
    · injection hb' with hb'
      subst hb'
      exact ⟨by omega, .inr rfl⟩
    · show k < (w2.alloc _).heap.size
      simp
      omega
    · omega
end
/-- package node's own table -/
theorem tabOk : TabOk TabN where
  stays := TabN.stays
  is h := h.is
  zero := TabN.zero
  clone h := tabClone_any h
  len h := (tabLen_any h).mono fun _ _ ⟨h1, h2⟩ => ⟨h1, h2 ▸ Below.refl _ _⟩
  new S k _ _ _ _ hS h := tabNew_any S k hS h
  put S e _ _ _ _ hS h he := tabPut_any S e hS h he
  del id _ _ _ _ h hI := tabDel_any id h hI
  get id _ _ _ _ h hI := tabGet_any id h hI
  all h := tabAll_any h
end Go.Proofs.YtklplmldhhlgiaaDoor
