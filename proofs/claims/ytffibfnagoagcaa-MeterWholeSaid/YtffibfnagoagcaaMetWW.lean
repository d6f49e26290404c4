/- The law MeterWhole: its walk, of the lists as they come in. -/
import Derived.Test.YtffibfnagoagcaaMetWh
import Derived.Test.YtffibfnagoagcaaMetZ
namespace Go.Proofs.Ytffibfnagoagcaa
open Go.RowKit

theorem meterWhole_walk (A : Option Addr) (n c : Nat) (xs : List Int) (A2 : Option Addr) (n2 c2 : Nat) (ys : List Int) (z : Int) (w : World) (h : ArgJ w w.heap.size A n c xs) (_ : c ≤ 35184372087808) (h2 : ArgJ w w.heap.size A2 n2 c2 ys) (_ : c2 ≤ 35184372087808) (h0 : 0 ≤ z) (h1 : z ≤ 255) :
    Calls Try.prog 8 #[.slice A n c, .slice A2 n2 c2, .int .u8 z] w (ValEnd w (.bool true)) :=
  meterWhole_g w A A2 n c n2 c2 xs ys z h h2 h0 h1 awake8_any
end Go.Proofs.Ytffibfnagoagcaa
