/- Figures that come in by value, opened. -/
import Derived.Test.YtffibfnagoagcaaProg
import Derived.WalkKit
import Derived.ProofKit
import Derived.OpenShut
import Derived.Lib.SmallJoins
namespace Go.Proofs.Ytffibfnagoagcaa
open Go.ChangeShapes Go.WideShapes Go.ChangeAt Go.RowKit
set_option maxRecDepth 100000
set_option linter.unusedVariables false

theorem fig_cells : Try.prog.cellsOf 24 = 8 := by kernel_rfl
theorem fig_int : Try.prog.cellsOf 3 = 1 := by kernel_rfl
theorem fig_u64 : Try.prog.cellsOf 22 = 1 := by kernel_rfl
structure FigB (n bad a0 a1 a2 a3 a4 a5 : Int) : Prop where
  n : -9223372036854775808 ≤ n ∧ n ≤ 9223372036854775807
  bad : -9223372036854775808 ≤ bad ∧ bad ≤ 9223372036854775807
  a0 : 0 ≤ a0 ∧ a0 ≤ 18446744073709551615
  a1 : 0 ≤ a1 ∧ a1 ≤ 18446744073709551615
  a2 : 0 ≤ a2 ∧ a2 ≤ 18446744073709551615
  a3 : 0 ≤ a3 ∧ a3 ≤ 18446744073709551615
  a4 : 0 ≤ a4 ∧ a4 ≤ 18446744073709551615
  a5 : 0 ≤ a5 ∧ a5 ≤ 18446744073709551615
theorem fig_open {H : Type} {enc : TypeId × Value → H} {W : World} {b0 : Nat} {v : Value} {d : DataW H} {p : List MemPlace}
    (hv : Value.okWide Try.prog W .any b0 24 v) (h : DataW.Trod enc Try.prog W 0 (fun _ => true) true 24 v d p) :
    ∃ n bad a0 a1 a2 a3 a4 a5 : Int, v = .agg #[.int .i64 n, .int .i64 bad, .int .u64 a0, .int .u64 a1, .int .u64 a2, .int .u64 a3, .int .u64 a4, .int .u64 a5] ∧ FigB n bad a0 a1 a2 a3 a4 a5 := by
  obtain ⟨cs, rfl, hsz⟩ := okWide_struct Try.underlying24 hv
  obtain ⟨fuel, hf⟩ := h
  obtain ⟨cs⟩ := cs
  have hlen : cs.length = 8 := by have := hsz.trans fig_cells; simpa using this
  obtain ⟨xs, k, hk, hxy, _, hxl, hfi⟩ := DataW.trod_struct Try.underlying24 hf
  match xs, hxl, cs, hlen with
  | [y0, y1, y2, y3, y4, y5, y6, y7], _, [v0, v1, v2, v3, v4, v5, v6, v7], _ =>
    have g0 : DataW.trod enc Try.prog W 0 (fun _ => true) true k 3 [v0] = some y0 := by simpa [fig_int, Value.cells] using hfi 0 _ rfl
    have g1 : DataW.trod enc Try.prog W 0 (fun _ => true) true k 3 [v1] = some y1 := by simpa [fig_int, Value.cells] using hfi 1 _ rfl
    have g2 : DataW.trod enc Try.prog W 0 (fun _ => true) true k 22 [v2] = some y2 := by simpa [fig_int, fig_u64, Value.cells] using hfi 2 _ rfl
    have g3 : DataW.trod enc Try.prog W 0 (fun _ => true) true k 22 [v3] = some y3 := by simpa [fig_int, fig_u64, Value.cells] using hfi 3 _ rfl
    have g4 : DataW.trod enc Try.prog W 0 (fun _ => true) true k 22 [v4] = some y4 := by simpa [fig_int, fig_u64, Value.cells] using hfi 4 _ rfl
    have g5 : DataW.trod enc Try.prog W 0 (fun _ => true) true k 22 [v5] = some y5 := by simpa [fig_int, fig_u64, Value.cells] using hfi 5 _ rfl
    have g6 : DataW.trod enc Try.prog W 0 (fun _ => true) true k 22 [v6] = some y6 := by simpa [fig_int, fig_u64, Value.cells] using hfi 6 _ rfl
    have g7 : DataW.trod enc Try.prog W 0 (fun _ => true) true k 22 [v7] = some y7 := by simpa [fig_int, fig_u64, Value.cells] using hfi 7 _ rfl
    obtain ⟨z0, e0, _, w0⟩ := DataW.trod_int Try.underlying3 g0
    obtain ⟨z1, e1, _, w1⟩ := DataW.trod_int Try.underlying3 g1
    obtain ⟨z2, e2, _, w2⟩ := DataW.trod_int Try.underlying22 g2
    obtain ⟨z3, e3, _, w3⟩ := DataW.trod_int Try.underlying22 g3
    obtain ⟨z4, e4, _, w4⟩ := DataW.trod_int Try.underlying22 g4
    obtain ⟨z5, e5, _, w5⟩ := DataW.trod_int Try.underlying22 g5
    obtain ⟨z6, e6, _, w6⟩ := DataW.trod_int Try.underlying22 g6
    obtain ⟨z7, e7, _, w7⟩ := DataW.trod_int Try.underlying22 g7
    simp only [List.cons.injEq, and_true] at e0 e1 e2 e3 e4 e5 e6 e7
    exact ⟨z0, z1, z2, z3, z4, z5, z6, z7, by rw [e0, e1, e2, e3, e4, e5, e6, e7], ⟨bounds_i64 w0, bounds_i64 w1, bounds_u64 w2, bounds_u64 w3, bounds_u64 w4, bounds_u64 w5, bounds_u64 w6, bounds_u64 w7⟩⟩
end Go.Proofs.Ytffibfnagoagcaa
