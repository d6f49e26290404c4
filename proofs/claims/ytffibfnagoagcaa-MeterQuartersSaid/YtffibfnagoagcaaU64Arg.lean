/- A list of uint64 that comes in, opened. -/
import Derived.Test.YtffibfnagoagcaaMetP
import Derived.WalkKit
import Derived.ProofKit
import Derived.OpenShut
import Derived.SizedLaws
namespace Go.Proofs.Ytffibfnagoagcaa
open Go.ChangeShapes Go.WideShapes Go.ChangeAt Go.RowKit
set_option maxRecDepth 100000

theorem u64s_cells : Try.prog.cellsOf 22 = 1 := by kernel_rfl
theorem u64s_bytes : Try.prog.bytesOf 22 = 8 := by kernel_rfl
theorem u64_of_wf {z : Int} (h : (Lit.int .u64 z).wf = true) : ((z.toNat : Nat) : Int) = z ∧ z.toNat ≤ 18446744073709551615 := by
  have := bounds_u64 h
  omega
theorem u64s_open {H : Type} {enc : TypeId × Value → H} {W : World} {a : Option Addr} {len cap : Nat} {d : DataW H} {p : List MemPlace}
    (h : DataW.Trod enc Try.prog W 0 (fun _ => true) true 42 (.slice a len cap) d p) :
    ∃ zs, ArgU W W.heap.size a len cap zs ∧ (cap = 0 ∨ ∃ elems spare, d = .slice elems spare ∧ elems.length + spare.length = cap) := by
  obtain ⟨fuel, hf⟩ := h
  rcases open_ints Try.underlying42 Try.underlying22 u64s_cells hf with ⟨hcs, hx0⟩ | ⟨x, l, c, zs, hcs, _, hl, hm, hz, hx, hcell, hwz⟩
  · simp [Value.cells] at hcs
    obtain ⟨rfl, rfl, rfl⟩ := hcs
    exact ⟨[], ⟨rfl, Nat.le_refl _, by unfold maxLen; omega, by simp, fun h => absurd h (by omega)⟩, .inl rfl⟩
  · simp [Value.cells] at hcs
    obtain ⟨rfl, rfl, rfl⟩ := hcs
    have hzc : zs.length = cap := by simpa using hz
    have hd : d = .slice (lits .u64 (zs.take len)) (lits .u64 (zs.drop len)) := congrArg Prod.fst hx
    refine ⟨(zs.take len).map Int.toNat, ⟨by simp; omega, hl, hm, fun v hv => ?_, fun hn => ?_⟩, .inr ⟨_, _, hd, by simp [lits]; omega⟩⟩
    · obtain ⟨z, hz, rfl⟩ := List.mem_map.1 hv
      exact (u64_of_wf (hwz z (List.mem_of_mem_take hz))).2
    have h0 := hcell 0 (by omega)
    obtain ⟨b, off, spot⟩ := x
    have hspot : spot = none := by simpa [Addr.add] using World.cell?_spot h0
    subst hspot
    refine ⟨b, off, rfl, ?_, fun k hk => ?_⟩
    · exact World.block_lt_of_cell? W _ (by simpa [Addr.add] using h0)
    · have hk' := hcell k (by omega)
      have e1 : ((zs.take len).map Int.toNat).getD k 0 = (zs.getD k 0).toNat := by
        simp [List.getD_eq_getElem?_getD, hk, show k < zs.length by omega]
      have hm : zs.getD k 0 ∈ zs := by
        rw [List.getD_eq_getElem?_getD, List.getElem?_eq_getElem (by omega)]
        exact List.getElem_mem _
      rw [e1, (u64_of_wf (hwz _ hm)).1, ← hk']
      by_cases h0 : k = 0 <;> simp [Addr.add, h0]
end Go.Proofs.Ytffibfnagoagcaa
