/- The law MeterOfs: its walk, of the list as it comes in. -/
import Derived.Test.YtffibfnagoagcaaMetOf
import Derived.Test.YtffibfnagoagcaaMetZ
namespace Go.Proofs.Ytffibfnagoagcaa
open Go.RowKit

theorem meterOfs_walk (A : Option Addr) (n c : Nat) (xs : List Nat) (w : World) (h : ArgU w w.heap.size A n c xs) (hn : c ≤ 17592186043904) :
    Calls Try.prog 4 #[.slice A n c] w (ValEnd w (.bool true)) :=
  meterOfs_g w A n c xs h hn awake8_any
end Go.Proofs.Ytffibfnagoagcaa
