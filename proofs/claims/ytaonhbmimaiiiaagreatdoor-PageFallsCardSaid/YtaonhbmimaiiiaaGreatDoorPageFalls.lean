/- PageFalls holds of the program at this commit, for every list of acts, every list of calls at which the power goes and every list of picks: a store that is opened behind each fall is as before the commit that fell or as behind it, whole. -/
import Derived.Test.YtaonhbmimaiiiaaGreatDoorGXbo
import Derived.Test.YtaonhbmimaiiiaaGreatDoorTie
import Derived.Test.YtaonhbmimaiiiaaGreatDoorCards
import Derived.SevenTiedAt
namespace Go.Proofs.YtaonhbmimaiiiaaGreatDoor
open Go.ChangeShapes Go.WideShapes Go.ChangeAt Go.RowKit
open Go.ChangeMaps (open_string shut_string)

set_option maxHeartbeats 40000000 in
theorem pageFalls_said : Rows.PageFallsSaid :=
  OpenClaim.holds_of_wide 4 Tryz.f4 rfl rfl rfl rfl rfl rfl rfl ⟨rfl, rfl, rfl, rfl, rfl⟩ rfl rfl rfl rfl rfl (by as_aux_lemma => kernel_rfl) Tryz.func4 (by as_aux_lemma => kernel_rfl)
    (of_decide_eq_true (by as_aux_lemma => kernel_rfl)) (by as_aux_lemma => unfold Func.isWrapper; first | (rw [if_pos (by decide +kernel)]; kernel_rfl) | (rw [if_neg (by decide +kernel)]; exact ⟨rfl, rfl⟩))
    (fun os started H enc _ => pageFalls_lifted os started H enc)


theorem pageFalls_holds : Rows.PageFallsCardSaid :=
  Claim7.holds_tied_plain_at .later [] [.sentinel, .sentinel, .sentinel, .sentinel, .sentinel, .sentinel, .sentinel, .sentinel, .sentinel, .sentinel, .sentinel, .sentinel, .sentinel, .sentinel, .sentinel, .sentinel, .sentinel, .sentinel, .sentinel, .sentinel, .sentinel, .sentinel, .sentinel, .sentinel] true (true, "ea2e93b8f2b3516417b5426e56210016b29a44fc07c45eb27135d41f6642b65c") true
    pageFalls_said (fun _ h => by cases h) (by kernel_rfl) (fun _ h => by cases h) pageFalls_row_tie rfl ⟨rfl, rfl⟩ (by kernel_rfl) rfl
    (fun f fn hf hfn => by
      obtain rfl : f = 4 := Option.some.inj ((show Tryz.prog.funcNamed Rows.pageFallsRow.func = some 4 by kernel_rfl).symm.trans hf) |>.symm
      obtain rfl : fn = Tryz.f4 := (Option.some.inj (Tryz.func4.symm.trans hfn)).symm
      exact ⟨by kernel_rfl, fun j t ht => by
        rw [Tryz.params4] at ht
        have hm : t ∈ [22, 44, 44] := by simpa using Array.mem_of_getElem? ht
        have hall : ([22, 44, 44].all fun u => !Tryz.prog.wantsStandIn u) = true := by kernel_rfl
        exact (show Tryz.prog.wantsStandIn t = false by simpa using List.all_eq_true.1 hall t hm)⟩)
    (by kernel_rfl)
#print axioms pageFalls_holds
end Go.Proofs.YtaonhbmimaiiiaaGreatDoor
