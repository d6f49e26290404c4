/- CauseDeep: its walk, whole. -/
import Derived.Test.YtoanpcnkaoigpaaDoorDeL
import Derived.Test.YtoanpcnkaoigpaaDoorDeD
namespace Go.Proofs.YtoanpcnkaoigpaaDoor
open Go.RowKit

theorem causeDeep_walk {w0 : World} (dep at_ cl : Nat) (n : Int) (w : World) (h0 : Lib0 w0) (hb : Below w0.heap.size w0 w) (hdep : dep < 256) (hat : at_ < 256) (hcl : cl < 256) (hn1 : -9223372036854775808 ≤ n) (hn2 : n ≤ 9223372036854775807) :
    Calls Tryd.prog 5 #[.int .u8 (dep : Int), .int .u8 (at_ : Int), .int .u8 (cl : Int), .int .i64 n] w fun e w' => e = .returned (.bool true) ∧ Below w.heap.size w w' := by
  have hm : at_ % (1 + dep % 12 + 1) < 1 + dep % 12 + 1 := Nat.mod_lt _ (by omega)
  rcases Nat.lt_or_ge (at_ % (1 + dep % 12 + 1)) (1 + dep % 12) with h | h
  · exact causeDeep_l dep at_ cl n w h0 hb hdep hat hcl hn1 hn2 h
  · exact causeDeep_d dep at_ cl n w h0 hb hdep hat hcl hn1 hn2 (by omega)
end Go.Proofs.YtoanpcnkaoigpaaDoor
