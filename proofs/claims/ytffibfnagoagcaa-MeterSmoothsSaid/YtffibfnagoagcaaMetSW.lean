/- The law MeterSmooths: its walk. -/
import Derived.Test.YtffibfnagoagcaaMetW
import Derived.Test.YtffibfnagoagcaaMetZ
import Derived.OpenShut
namespace Go.Proofs.Ytffibfnagoagcaa
open Go.RowKit

theorem meterSmooths_walk (l x a : Int) (w : World) (wl : (Lit.int .u64 l).wf = true) (wx : (Lit.int .u64 x).wf = true) (wa : (Lit.int .u64 a).wf = true) :
    Calls Try.prog 6 #[.int .u64 l, .int .u64 x, .int .u64 a] w (ValEnd w (.bool true)) := by
  have b1 := bounds_u64 wl
  have b2 := bounds_u64 wx
  have b3 := bounds_u64 wa
  obtain ⟨l, rfl⟩ : ∃ k : Nat, l = (k : Int) := ⟨l.toNat, by omega⟩
  obtain ⟨x, rfl⟩ : ∃ k : Nat, x = (k : Int) := ⟨x.toNat, by omega⟩
  obtain ⟨a, rfl⟩ : ∃ k : Nat, a = (k : Int) := ⟨a.toNat, by omega⟩
  exact meterSmooths_g l x a w (by omega) (by omega) (by omega) awake8_any
end Go.Proofs.Ytffibfnagoagcaa
