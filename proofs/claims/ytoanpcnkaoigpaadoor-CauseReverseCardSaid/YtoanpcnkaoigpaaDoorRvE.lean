/- CauseReverse: its walk, whole. -/
import Derived.Test.YtoanpcnkaoigpaaDoorRvF
import Derived.Test.YtoanpcnkaoigpaaDoorRvT
namespace Go.Proofs.YtoanpcnkaoigpaaDoor
open Go.RowKit

theorem causeReverse_walk {w0 : World} (cnt cl : Nat) (n : Int) (calm : Bool) (w : World) (h0 : Lib0 w0) (hb : Below w0.heap.size w0 w) (hcnt : cnt < 256) (hcl : cl < 256) (hn1 : -9223372036854775808 ≤ n) (hn2 : n ≤ 9223372036854775807) :
    Calls Tryd.prog 7 #[.int .u8 (cnt : Int), .int .u8 (cl : Int), .int .i64 n, .bool calm] w fun e w' => e = .returned (.bool true) ∧ Below w.heap.size w w' := by
  cases calm with
  | false => exact causeReverse_f cnt cl n w h0 hb hcnt hcl hn1 hn2
  | true => exact causeReverse_t cnt cl n w h0 hb hcnt hcl hn1 hn2
end Go.Proofs.YtoanpcnkaoigpaaDoor
