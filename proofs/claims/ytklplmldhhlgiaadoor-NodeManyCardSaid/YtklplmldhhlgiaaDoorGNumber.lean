/- Number brings any int below a bound that is above 0. -/
import Derived.Test.YtklplmldhhlgiaaDoorGBase
namespace Go.Proofs.YtklplmldhhlgiaaDoor
open Go.RowKit

set_option maxHeartbeats 400000 in
theorem number_any (n b : Int) (w : World) (hb : 0 < b) (hb1 : b ≤ 100000) :
    Calls Tryd.prog 19 #[.int .i64 n, .int .i64 b] w fun e w' => e = .returned (.int .i64 (n % b)) ∧ w = w' := by
  have h2 : -b < n.tmod b := Int.lt_tmod_of_pos n hb
  have h3 : n.tmod b < b := Int.tmod_lt_of_pos n hb
  rcases Int.lt_or_le (n.tmod b) 0 with h | h
  · have HE := hid (emod_neg n b hb h)
    have hz : ¬ b = 0 := by omega
    go_enter Tryd.func19, Tryd.ntmps19
    go_wp2
    go_ret
    rw [HE.out]
    exact ⟨rfl, rfl⟩
  · have HE := hid (emod_pos n b hb h)
    have hz : ¬ b = 0 := by omega
    go_enter Tryd.func19, Tryd.ntmps19
    go_wp2
    go_ret
    rw [HE.out]
    exact ⟨rfl, rfl⟩
end Go.Proofs.YtklplmldhhlgiaaDoor
