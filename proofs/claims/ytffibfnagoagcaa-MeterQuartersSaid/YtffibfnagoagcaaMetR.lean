/- Contract: between, at the place 1. -/
import Derived.Test.YtffibfnagoagcaaMetQ
namespace Go.Proofs.Ytffibfnagoagcaa
open Go.RowKit
set_option maxRecDepth 100000
set_option linter.unusedVariables false

theorem between_one (w : World) (A : Option Addr) (n c : Nat) (xs : List Nat) (h : ArgF w w.heap.size A n c xs) (hn : 2 ≤ n) :
    Calls Try.prog 56 #[.slice A n c, .float .f64 4607182418800017408] w fun e w' => e = .returned (.float .f64 (xs.getD 1 0)) ∧ w = w' := by
  have hle := h.le
  have hcap := h.cap
  unfold maxLen at hcap
  obtain ⟨bb, off, rfl, hB, hcell⟩ := h.at_ (by omega)
  have q := hcell 1 (by omega)
  generalize xs.getD 1 0 = v at *
  clear hcell h
  have F1 : floatOfInt FloatKind.f64 1 = 4607182418800017408 := by decide +kernel
  have F2 := fun w => run_float_arith (P := Try.prog) w .sub 27 .f64 4607182418800017408 4607182418800017408 0 (by decide +kernel)
  have F3 : FloatKind.f64.format.order 0 0 = some .eq := by decide +kernel
  have F4 := fun w => run_convert_float_int (P := Try.prog) w 27 3 .f64 .i64 4607182418800017408 1 (by rw [Try.underlying27]; rfl) Try.underlying3 (by decide +kernel)
  have hn1 : (1 : Int) < (n : Int) := by omega
  go_enter Try.func56, Try.ntmps56
  go_wp2
  go_ret
  exact ⟨rfl, rfl⟩
end Go.Proofs.Ytffibfnagoagcaa
