/- The law's own rate. -/
import Derived.Test.YtafboimlchjnaaaDoorRateAll
namespace Go.Proofs.YtafboimlchjnaaaDoor
open Go.RowKit
set_option maxRecDepth 100000
set_option linter.unusedVariables false

set_option maxHeartbeats 400000 in
theorem of4_any (w : World) (p b : Nat) (hz : Int) : Calls Tryd.prog 40 #[.int .u64 (p : Int), .int .u64 (b : Int), .int .i64 hz] w (ValEnd w (RateV p b hz)) := by
  have kst : ∀ (a : Addr) (x : Nat) (w : World), (store a (.float .f64 x)).run Tryd.prog w = stored Tryd.prog w a (.float .f64 x) .plain := fun a x w => run_store _ _ _ _ _ rfl
  go_enter Tryd.func40, Tryd.ntmps40
  go_wp2
  rw [run_callFunc_extern Tryd.func52 (by kernel_rfl) (by kernel_rfl) (by kernel_rfl) (e := Extern.MathFloatBits.float64frombits) (by kernel_rfl), run_f64from]
  simp only [Result.andThen]
  rw [Oper.upon_value]
  go_wp2
  rw [run_callFunc_extern Tryd.func52 (by kernel_rfl) (by kernel_rfl) (by kernel_rfl) (e := Extern.MathFloatBits.float64frombits) (by kernel_rfl), run_f64from]
  simp only [Result.andThen]
  rw [Oper.upon_value]
  go_wp2
  exact bodyPost_ret (v := RateV p b hz) (by simp [results, Tryd.results40, go_sem]) rfl ⟨rfl, (Below.refl _ _).alloc (Nat.le_refl _) _⟩

end Go.Proofs.YtafboimlchjnaaaDoor
