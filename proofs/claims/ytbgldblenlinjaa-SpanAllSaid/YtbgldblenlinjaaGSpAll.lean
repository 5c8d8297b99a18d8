/- The laws of package span, over what their rows lay. -/
import Derived.Test.YtbgldblenlinjaaGRow
import Derived.Test.YtbgldblenlinjaaGSpF
import Derived.Test.YtbgldblenlinjaaGSpG
import Derived.Test.YtbgldblenlinjaaGSpI
namespace Go.Proofs.Ytbgldblenlinjaa
open Go.ChangeShapes Go.WideShapes Go.ChangeAt Go.RowKit

theorem spanAll_all (x n : Int) (W : World) (hx : (Lit.int .i64 x).wf = true) (_ : (Lit.int .i64 n).wf = true) :
    Calls Try.prog 3 #[.int .i64 x, .int .i64 n] W fun e w' => e = .returned (.bool true) ∧ Below W.heap.size W w' := by
  have := bounds_i64 hx
  exact spanAll_any x n W (by omega) (by omega)
theorem spanLays_all (x : Int) (a : Option Addr) (len cap : Nat) (zs : List Int) (f : Int) (W : World) (_ : (Lit.int .i64 x).wf = true) (h : IsRow .u8 W a len cap zs) (_ : (Lit.int .u8 f).wf = true) :
    Calls Try.prog 4 #[.int .i64 x, .slice a len cap, .int .u8 f] W fun e w' => e = .returned (.bool true) ∧ Below W.heap.size W w' :=
  spanLays_any x a len cap _ f W (sl_of_row h)
theorem spanSizes_all (x y : Int) (a : Option Addr) (len cap : Nat) (zs : List Int) (W : World) (_ : (Lit.int .i64 x).wf = true) (_ : (Lit.int .i64 y).wf = true) (h : IsRow .u8 W a len cap zs) :
    Calls Try.prog 5 #[.int .i64 x, .int .i64 y, .slice a len cap] W fun e w' => e = .returned (.bool true) ∧ Below W.heap.size W w' :=
  spanSizes_any x y a len cap _ W (sl_of_row h)
end Go.Proofs.Ytbgldblenlinjaa
