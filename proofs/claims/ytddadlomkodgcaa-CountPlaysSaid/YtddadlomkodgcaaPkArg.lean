/- A list of picks that comes in, opened. -/
import Derived.Test.YtddadlomkodgcaaPk
import Derived.WalkKit
import Derived.ProofKit
import Derived.OpenShut
import Derived.SizedLaws
import Derived.Deep.SlicePairs
namespace Go.Proofs.Ytddadlomkodgcaa
open Go.ChangeShapes Go.WideShapes Go.ChangeAt Go.RowKit Go.Deep
set_option maxRecDepth 100000

theorem pick_cells : Try.prog.cellsOf 67 = 2 := by kernel_rfl
theorem pick_i64 : Try.prog.cellsOf 3 = 1 := by kernel_rfl
theorem pick_u8 : Try.prog.cellsOf 5 = 1 := by kernel_rfl
theorem pick_bytes : Try.prog.bytesOf 67 = 16 := by kernel_rfl
theorem addr_plain (b off k : Nat) : (⟨b, off, none⟩ : Addr).add k = ⟨b, off + k, none⟩ := by unfold Addr.add; split <;> simp_all
theorem picks_open {H : Type} {enc : TypeId × Value → H} {W : World} {a : Option Addr} {len cap : Nat} {d : DataW H} {p : List MemPlace}
    (h : DataW.Trod enc Try.prog W 0 (fun _ => true) true 59 (.slice a len cap) d p) :
    ∃ l, ArgC W W.heap.size 2 a len cap (FP l) ∧ okPick l ∧ (cap = 0 ∨ ∃ elems spare, d = .slice elems spare ∧ elems.length + spare.length = cap) := by
  obtain ⟨fuel, hf⟩ := h
  rcases open_slice_pairs Try.underlying59 Try.underlying67 pick_cells rfl rfl pick_i64 pick_u8 hf with ⟨hcs, hx0⟩ | ⟨x, l, c, m, n, V0, V1, D0, D1, P0, P1, hcs, _, hl, hm, hmm, hx, hcell⟩
  · simp [Value.cells] at hcs
    obtain ⟨rfl, rfl, rfl⟩ := hcs
    exact ⟨[], ⟨rfl, Nat.le_refl _, by unfold maxLen; omega, fun _ => ⟨rfl, rfl⟩, fun h => absurd h (by omega)⟩, (fun x hx => by cases hx), .inl rfl⟩
  · simp [Value.cells] at hcs
    obtain ⟨rfl, rfl, rfl⟩ := hcs
    have hmc : m = cap := by simpa using hmm
    subst hmc
    have hd : d = .slice ((List.range len).map fun i => .agg [D0 i, D1 i]) ((List.range (m - len)).map fun j => .agg [D0 (len + j), D1 (len + j)]) := congrArg Prod.fst hx
    refine ⟨(List.range len).map fun i => (intOf (V0 i), intOf (V1 i)), ⟨by rw [FP_len]; simp, hl, hm, (fun h => by cases h), fun hn => ?_⟩, fun y hy => ?_, .inr ⟨_, _, hd, by simp; omega⟩⟩
    rotate_left
    · -- bounds
      obtain ⟨i, hi, rfl⟩ := List.mem_map.1 hy
      have hi' : i < len := by simpa using hi
      obtain ⟨g0, g1, t0, t1⟩ := hcell i (by omega)
      obtain ⟨z0, e0, _, w0⟩ := DataW.trod_int Try.underlying3 t0
      obtain ⟨z1, e1, _, w1⟩ := DataW.trod_int Try.underlying5 t1
      simp at e0 e1
      have b0 := bounds_i64 w0
      have b1 := bounds_u8 w1
      simp only [e0, e1, intOf]
      omega
    have h0 := (hcell 0 (by omega)).1
    obtain ⟨b, off, spot⟩ := x
    have hspot : spot = none := by simpa [Addr.add] using World.cell?_spot h0
    subst hspot
    refine ⟨b, off, rfl, ?_, fun j hj => ?_⟩
    · exact World.block_lt_of_cell? W _ (by simpa [Addr.add] using h0)
    · have hi : j / 2 < len := by omega
      obtain ⟨g0, g1, t0, t1⟩ := hcell (j / 2) (by omega)
      obtain ⟨z0, e0, _, _⟩ := DataW.trod_int Try.underlying3 t0
      obtain ⟨z1, e1, _, _⟩ := DataW.trod_int Try.underlying5 t1
      simp at e0 e1
      have ha := FP_at ((List.range len).map fun i => (intOf (V0 i), intOf (V1 i))) (j / 2) (by simpa using hi)
      have hget : ((List.range len).map fun i => (intOf (V0 i), intOf (V1 i))).getD (j / 2) (0, 0) = (z0, z1) := by
        simp [List.getD_eq_getElem?_getD, hi, e0, e1, intOf]
      rw [hget] at ha
      rw [e0] at g0
      rw [e1] at g1
      rw [addr_plain] at g0 g1
      rcases Nat.mod_two_eq_zero_or_one j with hj2 | hj2
      · obtain hjj : j = j / 2 * 2 := by omega
        rw [hjj, g0]; exact ha.1.symm
      · obtain hjj : j = j / 2 * 2 + 1 := by omega
        rw [hjj, g1]; exact ha.2.symm
end Go.Proofs.Ytddadlomkodgcaa
