/- How calls end that answer a value and leave all older memory as it was. -/
import Derived.Test.YtifldnkcheobhaaDoorMem
namespace Go.Proofs.YtifldnkcheobhaaDoor
open Go.RowKit
theorem below_drewN {B : Nat} {a w : World} (h : Below B a w) (n : Nat) : Below B a (w.drewN n) := ⟨h.os, h.tape, h.output, h.size, h.block⟩
/-- A value, and all that was there stays. -/
def ValEnd (w : World) (v : Value) (e : Ending) (w' : World) : Prop := e = .returned v ∧ Below w.heap.size w w'
end Go.Proofs.YtifldnkcheobhaaDoor
