/- A token that comes in by value, opened. -/
import Derived.Test.YtndgladfcogiiaaArg
import Derived.WalkKit
import Derived.ProofKit
import Derived.OpenShut
import Derived.SizedLaws
import Derived.Lib.SmallJoins
namespace Go.Proofs.Ytndgladfcogiiaa
open Go.ChangeShapes Go.WideShapes Go.ChangeAt Go.RowKit
set_option maxRecDepth 100000

theorem tok_cells : Try.prog.cellsOf 24 = 3 := by kernel_rfl
theorem u8_cells : Try.prog.cellsOf 5 = 1 := by kernel_rfl
theorem u8_bytes : Try.prog.bytesOf 5 = 1 := by kernel_rfl
theorem tok_open {H : Type} {enc : TypeId × Value → H} {W : World} {b0 : Nat} {v : Value} {d : DataW H} {p : List MemPlace}
    (hv : Value.okWide Try.prog W .any b0 24 v) (h : DataW.Trod enc Try.prog W 0 (fun _ => true) true 24 v d p) :
    ∃ (pm : Int) (A : Option Addr) (n c : Nat) (xs : List Nat) (s : Int), v = .agg #[.int .i64 pm, .slice A n c, .int .i64 s] ∧ Arg W W.heap.size A n c xs ∧
      (c = 0 ∨ ∃ elems spare, d = .agg [.lit (.int .i64 pm), .slice elems spare, .lit (.int .i64 s)] ∧ elems.length + spare.length = c) := by
  obtain ⟨c0, c1, c2, y0, y1, y2, m, rfl, rfl, rfl, hy0, hy1, hy2⟩ := Joins.open_agg3 Try.underlying24 (by kernel_rfl) tok_cells hv h
  obtain ⟨a, e0, rfl, wa⟩ := DataW.trod_int Try.underlying3 hy0
  simp at e0
  subst e0
  obtain ⟨s, e2, rfl, ws⟩ := DataW.trod_int Try.underlying2 hy2
  simp at e2
  subst e2
  rcases open_ints Try.underlying22 Try.underlying5 u8_cells hy1 with ⟨hcs, hx0⟩ | ⟨x, l, c, zs, hcs, _, hl, hm, hz, hx, hcell, hwz⟩
  · simp only [List.cons.injEq, and_true] at hcs
    subst hcs
    exact ⟨a, none, 0, 0, [], s, rfl, Arg.nil _ _, .inl rfl⟩
  · simp only [List.cons.injEq, and_true] at hcs
    subst hcs
    have hzc : zs.length = c := by simpa using hz
    have hd : y1.1 = .slice (lits .u8 (zs.take l)) (lits .u8 (zs.drop l)) := congrArg Prod.fst hx
    refine ⟨a, some x, l, c, (zs.take l).map Int.toNat, s, rfl, ⟨by simp; omega, hl, hm, fun d hd => ?_, (fun h => by cases h), fun hn => ?_⟩, .inr ⟨_, _, by rw [hd], by simp [lits]; omega⟩⟩
    · obtain ⟨z, hz, rfl⟩ := List.mem_map.1 hd
      exact (byte_of_wf (hwz z (List.mem_of_mem_take hz))).2
    · have h0 := hcell 0 (by omega)
      obtain ⟨b, off, spot⟩ := x
      have hspot : spot = none := by simpa [Addr.add] using World.cell?_spot h0
      subst hspot
      refine ⟨b, off, rfl, ?_, fun k hk => ?_⟩
      · exact World.block_lt_of_cell? W _ (by simpa [Addr.add] using h0)
      · have hk' := hcell k (by omega)
        have e1 : ((zs.take l).map Int.toNat).getD k 0 = (zs.getD k 0).toNat := by
          simp [List.getD_eq_getElem?_getD, hk, show k < zs.length by omega]
        have hm : zs.getD k 0 ∈ zs := by
          rw [List.getD_eq_getElem?_getD, List.getElem?_eq_getElem (by omega)]
          exact List.getElem_mem _
        rw [e1, (byte_of_wf (hwz _ hm)).1, ← hk']
        by_cases h0 : k = 0 <;> simp [Addr.add, h0]
theorem tok_sized {H : Type} {ts : List TypeId} {ds : List (DataW H)} (h : (DataW.weightsEach Try.prog ts ds).all (· ≤ reachBytes) = true) {j : Nat} {pm s : Int} {elems spare : List (DataW H)}
    (ht : ts[j]? = some 24) (hd : ds[j]? = some (.agg [.lit (.int .i64 pm), .slice elems spare, .lit (.int .i64 s)])) : elems.length + spare.length ≤ 140737488351232 := by
  have := List.all_eq_true.1 h _ (DataW.weights_mem_each ht hd ((elems.length + spare.length) * 1) (by simp [DataW.weights, DataW.weightsEach, Try.underlying24, Try.underlying22, u8_bytes]))
  have h2 := of_decide_eq_true this
  unfold reachBytes at h2
  omega
end Go.Proofs.Ytndgladfcogiiaa
