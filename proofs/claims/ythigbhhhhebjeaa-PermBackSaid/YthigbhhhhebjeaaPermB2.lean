/- PermBack, as the row's step asks for it. -/
import Derived.Test.YthigbhhhhebjeaaPermB
namespace Go.Proofs.Ythigbhhhhebjeaa
open Go.ChangeShapes Go.WideShapes
theorem permBack_row (A : Option Addr) (n c : Nat) (xs : List Int) (p x y : Int) (w : World) (h : ArgI w w.heap.size A n c xs) (hc : c ≤ 17592186043904)
    (_wx : (Lit.int .i64 x).wf = true) (_wy : (Lit.int .i64 y).wf = true) :
    Calls Try.prog 14 #[.agg #[.int .i64 p, .slice A n c], .int .i64 x, .int .i64 y] w (ValEnd w (.bool true)) :=
  permBack_walk w A n c xs p x y h (by have := h.le; omega)
end Go.Proofs.Ythigbhhhhebjeaa
