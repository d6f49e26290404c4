/- The law MeterBad: its walk, of the lists as they come in. -/
import Derived.Test.YtffibfnagoagcaaMetBd
import Derived.Test.YtffibfnagoagcaaMetZ
namespace Go.Proofs.Ytffibfnagoagcaa
open Go.RowKit

theorem meterBad_walk (A : Option Addr) (n c : Nat) (xs : List Nat) (A2 : Option Addr) (n2 c2 : Nat) (zs : List Nat) (w : World) (h : ArgU w w.heap.size A n c xs) (hn : c ≤ 17592186043904) (h2 : Arg w w.heap.size A2 n2 c2 zs) (_ : c2 ≤ 140737488351232) :
    Calls Try.prog 10 #[.slice A n c, .slice A2 n2 c2] w (ValEnd w (.bool true)) :=
  meterBad_g w A A2 n c n2 c2 xs zs h h2 hn awake8_any
end Go.Proofs.Ytffibfnagoagcaa
