/- A list of int64 that comes in, opened. -/
import Derived.Test.YtpeijhlheencnaaInts
import Derived.WalkKit
import Derived.ProofKit
import Derived.OpenShut
import Derived.SizedLaws
namespace Go.Proofs.Ytpeijhlheencnaa
open Go.ChangeShapes Go.WideShapes Go.ChangeAt Go.RowKit
set_option maxRecDepth 100000

theorem i64s_cells : Try.prog.cellsOf 2 = 1 := by kernel_rfl
theorem i64s_bytes : Try.prog.bytesOf 2 = 8 := by kernel_rfl
theorem i64s_open {H : Type} {enc : TypeId × Value → H} {W : World} {a : Option Addr} {len cap : Nat} {d : DataW H} {p : List MemPlace}
    (h : DataW.Trod enc Try.prog W 0 (fun _ => true) true 50 (.slice a len cap) d p) :
    ∃ zs, ArgI W W.heap.size a len cap zs ∧ (∀ v ∈ zs, -9223372036854775808 ≤ v ∧ v ≤ 9223372036854775807) ∧ (cap = 0 ∨ ∃ elems spare, d = .slice elems spare ∧ elems.length + spare.length = cap) := by
  obtain ⟨fuel, hf⟩ := h
  rcases open_ints Try.underlying50 Try.underlying2 i64s_cells hf with ⟨hcs, hx0⟩ | ⟨x, l, c, zs, hcs, _, hl, hm, hz, hx, hcell, hwz⟩
  · simp [Value.cells] at hcs
    obtain ⟨rfl, rfl, rfl⟩ := hcs
    exact ⟨[], ArgI.nil _ _, by simp, .inl rfl⟩
  · simp [Value.cells] at hcs
    obtain ⟨rfl, rfl, rfl⟩ := hcs
    have hzc : zs.length = cap := by simpa using hz
    have hd : d = .slice (lits .i64 (zs.take len)) (lits .i64 (zs.drop len)) := congrArg Prod.fst hx
    refine ⟨zs.take len, ⟨by simp; omega, hl, hm, (fun h => by cases h), fun hn => ?_⟩, fun v hv => ?_, .inr ⟨_, _, hd, by simp [lits]; omega⟩⟩
    rotate_left
    · have := bounds_i64 (hwz v (List.mem_of_mem_take hv))
      omega
    have h0 := hcell 0 (by omega)
    obtain ⟨b, off, spot⟩ := x
    have hspot : spot = none := by simpa [Addr.add] using World.cell?_spot h0
    subst hspot
    refine ⟨b, off, rfl, ?_, fun k hk => ?_⟩
    · exact World.block_lt_of_cell? W _ (by simpa [Addr.add] using h0)
    · have hk' := hcell k (by omega)
      have e1 : (zs.take len).getD k 0 = zs.getD k 0 := by
        simp [List.getD_eq_getElem?_getD, hk]
      rw [e1, ← hk']
      by_cases h0 : k = 0 <;> simp [Addr.add, h0]
end Go.Proofs.Ytpeijhlheencnaa
