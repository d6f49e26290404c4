/- Contract of the laws on perm: of. -/
import Derived.Test.YtnkecjjfbllgdaaPermS
import Derived.Deep.RegionHeld3
namespace Go.Proofs.Ytnkecjjfbllgdaa
open Go.RowKit
set_option maxRecDepth 100000

theorem BlkL.low {w w' : World} {b B : Nat} {xs : List Value} (h : BlkL w b xs) (hb : Below B w w') (hlt : b < B) : BlkL w' b xs :=
  ⟨Nat.lt_of_lt_of_le h.lt hb.size, fun i v hv => (hb.cell (p := ⟨b, i, none⟩) hlt).trans (h.cell i v hv), fun i hi => (hb.frozen (p := ⟨b, i, none⟩) hlt).trans (h.froz i hi)⟩

end Go.Proofs.Ytnkecjjfbllgdaa
