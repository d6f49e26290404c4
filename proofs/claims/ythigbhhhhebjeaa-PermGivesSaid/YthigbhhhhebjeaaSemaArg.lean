/- A semaphore of the document that comes in by value, opened. -/
import Derived.Test.YthigbhhhhebjeaaInts
import Derived.WalkKit
import Derived.ProofKit
import Derived.OpenShut
import Derived.SizedLaws
import Derived.Lib.SmallJoins
namespace Go.Proofs.Ythigbhhhhebjeaa
open Go.ChangeShapes Go.WideShapes Go.ChangeAt Go.RowKit
set_option maxRecDepth 100000

theorem sem_cells : Try.prog.cellsOf 73 = 2 := by kernel_rfl
theorem int64_cells : Try.prog.cellsOf 2 = 1 := by kernel_rfl
theorem int64_bytes : Try.prog.bytesOf 2 = 8 := by kernel_rfl
theorem sem_open {H : Type} {enc : TypeId × Value → H} {W : World} {b0 : Nat} {v : Value} {d : DataW H} {p : List MemPlace}
    (hv : Value.okWide Try.prog W .any b0 73 v) (h : DataW.Trod enc Try.prog W 0 (fun _ => true) true 73 v d p) :
    ∃ (pm : Int) (A : Option Addr) (n c : Nat) (xs : List Int), v = .agg #[.int .i64 pm, .slice A n c] ∧ ArgI W W.heap.size A n c xs ∧
      (c = 0 ∨ ∃ elems spare, d = .agg [.lit (.int .i64 pm), .slice elems spare] ∧ elems.length + spare.length = c) := by
  obtain ⟨c0, c1, y0, y1, m, rfl, rfl, rfl, hy0, hy1⟩ := Joins.open_agg2 Try.underlying73 (by kernel_rfl) sem_cells hv h
  obtain ⟨a, e0, rfl, wa⟩ := DataW.trod_int Try.underlying3 hy0
  simp at e0
  subst e0
  rcases open_ints Try.underlying60 Try.underlying2 int64_cells hy1 with ⟨hcs, hx0⟩ | ⟨x, l, c, zs, hcs, _, hl, hm, hz, hx, hcell, hwz⟩
  · simp only [List.cons.injEq, and_true] at hcs
    subst hcs
    exact ⟨a, none, 0, 0, [], rfl, ArgI.nil _ _, .inl rfl⟩
  · simp only [List.cons.injEq, and_true] at hcs
    subst hcs
    have hzc : zs.length = c := by simpa using hz
    have hd : y1.1 = .slice (lits .i64 (zs.take l)) (lits .i64 (zs.drop l)) := congrArg Prod.fst hx
    refine ⟨a, some x, l, c, zs.take l, rfl, ⟨by simp; omega, hl, hm, (fun h => by cases h), fun hn => ?_⟩, .inr ⟨_, _, by rw [hd], by simp [lits]; omega⟩⟩
    have h0 := hcell 0 (by omega)
    obtain ⟨b, off, spot⟩ := x
    have hspot : spot = none := by simpa [Addr.add] using World.cell?_spot h0
    subst hspot
    refine ⟨b, off, rfl, ?_, fun k hk => ?_⟩
    · exact World.block_lt_of_cell? W _ (by simpa [Addr.add] using h0)
    · have hk' := hcell k (by omega)
      have e1 : (zs.take l).getD k 0 = zs.getD k 0 := by
        simp [List.getD_eq_getElem?_getD, hk]
      rw [e1, ← hk']
      by_cases h0 : k = 0 <;> simp [Addr.add, h0]
theorem sem_sized {H : Type} {ts : List TypeId} {ds : List (DataW H)} (h : (DataW.weightsEach Try.prog ts ds).all (· ≤ reachBytes) = true) {j : Nat} {pm : Int} {elems spare : List (DataW H)}
    (ht : ts[j]? = some 73) (hd : ds[j]? = some (.agg [.lit (.int .i64 pm), .slice elems spare])) : elems.length + spare.length ≤ 17592186043904 := by
  have := List.all_eq_true.1 h _ (DataW.weights_mem_each ht hd ((elems.length + spare.length) * 8) (by simp [DataW.weights, DataW.weightsEach, Try.underlying73, Try.underlying60, int64_bytes]))
  have h2 := of_decide_eq_true this
  unfold reachBytes at h2
  omega
end Go.Proofs.Ythigbhhhhebjeaa
