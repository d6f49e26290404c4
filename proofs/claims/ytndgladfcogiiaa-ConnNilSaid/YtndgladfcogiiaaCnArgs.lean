/- Tokens, replies, calls, operations that come in by value. -/
import Derived.Test.YtndgladfcogiiaaArg
import Derived.WalkKit
import Derived.ProofKit
import Derived.OpenShut
import Derived.SizedLaws
import Derived.Lib.SmallJoins
import Derived.Test.YtndgladfcogiiaaCnAll

/- A token that comes in by value, opened. -/
namespace Go.Proofs.Ytndgladfcogiiaa
open Go.ChangeShapes Go.WideShapes Go.ChangeAt Go.RowKit
set_option maxRecDepth 100000

theorem tok_cells : Try.prog.cellsOf 24 = 3 := by kernel_rfl
theorem u8_cells : Try.prog.cellsOf 5 = 1 := by kernel_rfl
theorem u8_bytes : Try.prog.bytesOf 5 = 1 := by kernel_rfl
theorem tok_open {H : Type} {enc : TypeId × Value → H} {W : World} {b0 : Nat} {v : Value} {d : DataW H} {p : List MemPlace}
    (hv : Value.okWide Try.prog W .any b0 24 v) (h : DataW.Trod enc Try.prog W 0 (fun _ => true) true 24 v d p) :
    ∃ (pm : Int) (A : Option Addr) (n c : Nat) (xs : List Nat) (s : Int), v = .agg #[.int .i64 pm, .slice A n c, .int .i64 s] ∧ Arg W W.heap.size A n c xs ∧
      (c = 0 ∨ ∃ elems spare, d = .agg [.lit (.int .i64 pm), .slice elems spare, .lit (.int .i64 s)] ∧ elems.length + spare.length = c) := by
  obtain ⟨c0, c1, c2, y0, y1, y2, m, rfl, rfl, rfl, hy0, hy1, hy2⟩ := Joins.open_agg3 Try.underlying24 (by kernel_rfl) tok_cells hv h
  obtain ⟨a, e0, rfl, wa⟩ := DataW.trod_int Try.underlying3 hy0
  simp at e0
  subst e0
  obtain ⟨s, e2, rfl, ws⟩ := DataW.trod_int Try.underlying2 hy2
  simp at e2
  subst e2
  rcases open_ints Try.underlying22 Try.underlying5 u8_cells hy1 with ⟨hcs, hx0⟩ | ⟨x, l, c, zs, hcs, _, hl, hm, hz, hx, hcell, hwz⟩
  · simp only [List.cons.injEq, and_true] at hcs
    subst hcs
    exact ⟨a, none, 0, 0, [], s, rfl, Arg.nil _ _, .inl rfl⟩
  · simp only [List.cons.injEq, and_true] at hcs
    subst hcs
    have hzc : zs.length = c := by simpa using hz
    have hd : y1.1 = .slice (lits .u8 (zs.take l)) (lits .u8 (zs.drop l)) := congrArg Prod.fst hx
    refine ⟨a, some x, l, c, (zs.take l).map Int.toNat, s, rfl, ⟨by simp; omega, hl, hm, fun d hd => ?_, (fun h => by cases h), fun hn => ?_⟩, .inr ⟨_, _, by rw [hd], by simp [lits]; omega⟩⟩
    · obtain ⟨z, hz, rfl⟩ := List.mem_map.1 hd
      exact (byte_of_wf (hwz z (List.mem_of_mem_take hz))).2
    · have h0 := hcell 0 (by omega)
      obtain ⟨b, off, spot⟩ := x
      have hspot : spot = none := by simpa [Addr.add] using World.cell?_spot h0
      subst hspot
      refine ⟨b, off, rfl, ?_, fun k hk => ?_⟩
      · exact World.block_lt_of_cell? W _ (by simpa [Addr.add] using h0)
      · have hk' := hcell k (by omega)
        have e1 : ((zs.take l).map Int.toNat).getD k 0 = (zs.getD k 0).toNat := by
          simp [List.getD_eq_getElem?_getD, hk, show k < zs.length by omega]
        have hm : zs.getD k 0 ∈ zs := by
          rw [List.getD_eq_getElem?_getD, List.getElem?_eq_getElem (by omega)]
          exact List.getElem_mem _
        rw [e1, (byte_of_wf (hwz _ hm)).1, ← hk']
        by_cases h0 : k = 0 <;> simp [Addr.add, h0]
theorem tok_sized {H : Type} {ts : List TypeId} {ds : List (DataW H)} (h : (DataW.weightsEach Try.prog ts ds).all (· ≤ reachBytes) = true) {j : Nat} {pm s : Int} {elems spare : List (DataW H)}
    (ht : ts[j]? = some 24) (hd : ds[j]? = some (.agg [.lit (.int .i64 pm), .slice elems spare, .lit (.int .i64 s)])) : elems.length + spare.length ≤ 140737488351232 := by
  have := List.all_eq_true.1 h _ (DataW.weights_mem_each ht hd ((elems.length + spare.length) * 1) (by simp [DataW.weights, DataW.weightsEach, Try.underlying24, Try.underlying22, u8_bytes]))
  have h2 := of_decide_eq_true this
  unfold reachBytes at h2
  omega
end Go.Proofs.Ytndgladfcogiiaa


/- Replies and calls that come in by value, opened. -/
namespace Go.Proofs.Ytndgladfcogiiaa
open Go.ChangeShapes Go.WideShapes Go.ChangeAt Go.RowKit
set_option maxRecDepth 100000
set_option linter.unusedVariables false

theorem rep_cells : Try.prog.cellsOf 82 = 6 := by kernel_rfl
theorem rep_i : Try.prog.cellsOf 2 = 1 := by kernel_rfl
theorem rep_b : Try.prog.cellsOf 4 = 1 := by kernel_rfl
theorem rep_e : Try.prog.cellsOf 28 = 1 := by kernel_rfl
theorem reply_open {H : Type} {enc : TypeId × Value → H} {W : World} {b0 : Nat} {v : Value} {d : DataW H} {p : List MemPlace}
    (hv : Value.okWide Try.prog W .any b0 82 v) (h : DataW.Trod enc Try.prog W 0 (fun _ => true) true 82 v d p) :
    ∃ (E : Int) (G : Bool) (a b q d : Int), v = .agg #[.int .i64 E, .bool G, .int .i64 a, .int .i64 b, .int .i64 q, .int .i64 d] := by
  obtain ⟨cs, rfl, hsz⟩ := okWide_struct Try.underlying82 hv
  obtain ⟨fuel, hf⟩ := h
  obtain ⟨cs⟩ := cs
  have hlen : cs.length = 6 := by have := hsz.trans rep_cells; simpa using this
  obtain ⟨xs, k, hk, hxy, _, hxl, hfi⟩ := DataW.trod_struct Try.underlying82 hf
  match xs, hxl, cs, hlen with
  | [y0, y1, y2, y3, y4, y5], _, [v0, v1, v2, v3, v4, v5], _ =>
    have g0 : DataW.trod enc Try.prog W 0 (fun _ => true) true k 28 [v0] = some y0 := by simpa [rep_e, rep_i, rep_b, Value.cells] using hfi 0 _ rfl
    have g1 : DataW.trod enc Try.prog W 0 (fun _ => true) true k 4 [v1] = some y1 := by simpa [rep_e, rep_i, rep_b, Value.cells] using hfi 1 _ rfl
    have g2 : DataW.trod enc Try.prog W 0 (fun _ => true) true k 2 [v2] = some y2 := by simpa [rep_e, rep_i, rep_b, Value.cells] using hfi 2 _ rfl
    have g3 : DataW.trod enc Try.prog W 0 (fun _ => true) true k 2 [v3] = some y3 := by simpa [rep_e, rep_i, rep_b, Value.cells] using hfi 3 _ rfl
    have g4 : DataW.trod enc Try.prog W 0 (fun _ => true) true k 2 [v4] = some y4 := by simpa [rep_e, rep_i, rep_b, Value.cells] using hfi 4 _ rfl
    have g5 : DataW.trod enc Try.prog W 0 (fun _ => true) true k 2 [v5] = some y5 := by simpa [rep_e, rep_i, rep_b, Value.cells] using hfi 5 _ rfl
    obtain ⟨z0, e0, _, w0⟩ := DataW.trod_int Try.underlying28 g0
    obtain ⟨z1, e1, _⟩ := DataW.trod_bool Try.underlying4 g1
    obtain ⟨z2, e2, _, w2⟩ := DataW.trod_int Try.underlying2 g2
    obtain ⟨z3, e3, _, w3⟩ := DataW.trod_int Try.underlying2 g3
    obtain ⟨z4, e4, _, w4⟩ := DataW.trod_int Try.underlying2 g4
    obtain ⟨z5, e5, _, w5⟩ := DataW.trod_int Try.underlying2 g5
    simp only [List.cons.injEq, and_true] at e0 e1 e2 e3 e4 e5
    exact ⟨z0, z1, z2, z3, z4, z5, by rw [e0, e1, e2, e3, e4, e5]⟩
theorem call_cells : Try.prog.cellsOf 71 = 4 := by kernel_rfl
theorem call_open {H : Type} {enc : TypeId × Value → H} {W : World} {b0 : Nat} {v : Value} {d : DataW H} {p : List MemPlace}
    (hv : Value.okWide Try.prog W .any b0 71 v) (h : DataW.Trod enc Try.prog W 0 (fun _ => true) true 71 v d p) :
    ∃ (o : Nat) (pm : Int) (A : Option Addr) (n c : Nat) (xs : List Nat) (s : Int), v = .agg #[.int .u8 (o : Int), .int .i64 pm, .slice A n c, .int .i64 s] ∧ o < 256 ∧ Arg W W.heap.size A n c xs ∧
      (c = 0 ∨ ∃ elems spare, d = .agg [.lit (.int .u8 (o : Int)), .lit (.int .i64 pm), .slice elems spare, .lit (.int .i64 s)] ∧ elems.length + spare.length = c) := by
  obtain ⟨c0, c1, c2, c3, y0, y1, y2, y3, m, rfl, rfl, rfl, hy0, hy1, hy2, hy3⟩ := Joins.open_agg4 Try.underlying71 (by kernel_rfl) call_cells hv h
  obtain ⟨o0, e0, hd0, wo⟩ := DataW.trod_int Try.underlying5 hy0
  simp at e0
  subst e0
  have hby := bounds_u8 wo
  obtain ⟨o, rfl⟩ : ∃ o : Nat, o0 = (o : Int) := ⟨o0.toNat, by omega⟩
  obtain ⟨a, e1, hd1, wa⟩ := DataW.trod_int Try.underlying3 hy1
  simp at e1
  subst e1
  obtain ⟨s, e3, hd3, ws⟩ := DataW.trod_int Try.underlying2 hy3
  simp at e3
  subst e3
  subst hd0 hd1 hd3
  rcases open_ints Try.underlying22 Try.underlying5 u8_cells hy2 with ⟨hcs, hx0⟩ | ⟨x, l, c, zs, hcs, _, hl, hm, hz, hx, hcell, hwz⟩
  · simp only [List.cons.injEq, and_true] at hcs
    subst hcs
    exact ⟨o, a, none, 0, 0, [], s, rfl, by omega, Arg.nil _ _, .inl rfl⟩
  · simp only [List.cons.injEq, and_true] at hcs
    subst hcs
    have hzc : zs.length = c := by simpa using hz
    have hd : y2.1 = .slice (lits .u8 (zs.take l)) (lits .u8 (zs.drop l)) := congrArg Prod.fst hx
    refine ⟨o, a, some x, l, c, (zs.take l).map Int.toNat, s, rfl, by omega, ⟨by simp; omega, hl, hm, fun d hd => ?_, (fun h => by cases h), fun hn => ?_⟩, .inr ⟨_, _, by rw [hd], by simp [lits]; omega⟩⟩
    · obtain ⟨z, hz, rfl⟩ := List.mem_map.1 hd
      exact (byte_of_wf (hwz z (List.mem_of_mem_take hz))).2
    · have h0 := hcell 0 (by omega)
      obtain ⟨b, off, spot⟩ := x
      have hspot : spot = none := by simpa [Addr.add] using World.cell?_spot h0
      subst hspot
      refine ⟨b, off, rfl, ?_, fun k hk => ?_⟩
      · exact World.block_lt_of_cell? W _ (by simpa [Addr.add] using h0)
      · have hk' := hcell k (by omega)
        have e1 : ((zs.take l).map Int.toNat).getD k 0 = (zs.getD k 0).toNat := by
          simp [List.getD_eq_getElem?_getD, hk, show k < zs.length by omega]
        have hm : zs.getD k 0 ∈ zs := by
          rw [List.getD_eq_getElem?_getD, List.getElem?_eq_getElem (by omega)]
          exact List.getElem_mem _
        rw [e1, (byte_of_wf (hwz _ hm)).1, ← hk']
        by_cases h0 : k = 0 <;> simp [Addr.add, h0]
theorem call_sized {H : Type} {ts : List TypeId} {ds : List (DataW H)} (h : (DataW.weightsEach Try.prog ts ds).all (· ≤ reachBytes) = true) {j : Nat} {o pm s : Int} {elems spare : List (DataW H)}
    (ht : ts[j]? = some 71) (hd : ds[j]? = some (.agg [.lit (.int .u8 o), .lit (.int .i64 pm), .slice elems spare, .lit (.int .i64 s)])) : elems.length + spare.length ≤ 140737488351232 := by
  have := List.all_eq_true.1 h _ (DataW.weights_mem_each ht hd ((elems.length + spare.length) * 1) (by simp [DataW.weights, DataW.weightsEach, Try.underlying71, Try.underlying22, u8_bytes]))
  have h2 := of_decide_eq_true this
  unfold reachBytes at h2
  omega
end Go.Proofs.Ytndgladfcogiiaa


/- An operation of the law's script that comes in by value, opened. -/
namespace Go.Proofs.Ytndgladfcogiiaa
open Go.ChangeShapes Go.WideShapes Go.ChangeAt Go.RowKit
set_option maxRecDepth 100000
set_option linter.unusedVariables false

theorem op22_cells : Try.prog.cellsOf 92 = 8 := by kernel_rfl
theorem op22_8 : Try.prog.cellsOf 5 = 1 := by kernel_rfl
theorem op22_s : Try.prog.cellsOf 22 = 1 := by kernel_rfl
theorem reply_list {H : Type} {enc : TypeId × Value → H} {W : World} {f : Nat} {v0 v1 v2 v3 v4 v5 : Value} {y : DataW H × List MemPlace} (hf : DataW.trod enc Try.prog W 0 (fun _ => true) true f 82 [v0, v1, v2, v3, v4, v5] = some y) :
    ∃ (E : Int) (G : Bool) (a b q d : Int), v0 = .int .i64 E ∧ v1 = .bool G ∧ v2 = .int .i64 a ∧ v3 = .int .i64 b ∧ v4 = .int .i64 q ∧ v5 = .int .i64 d := by
  obtain ⟨xs, k, hk, hxy, _, hxl, hfi⟩ := DataW.trod_struct Try.underlying82 hf
  match xs, hxl with
  | [y0, y1, y2, y3, y4, y5], _ =>
    have g0 : DataW.trod enc Try.prog W 0 (fun _ => true) true k 28 [v0] = some y0 := by simpa [rep_e, rep_i, rep_b, Value.cells] using hfi 0 _ rfl
    have g1 : DataW.trod enc Try.prog W 0 (fun _ => true) true k 4 [v1] = some y1 := by simpa [rep_e, rep_i, rep_b, Value.cells] using hfi 1 _ rfl
    have g2 : DataW.trod enc Try.prog W 0 (fun _ => true) true k 2 [v2] = some y2 := by simpa [rep_e, rep_i, rep_b, Value.cells] using hfi 2 _ rfl
    have g3 : DataW.trod enc Try.prog W 0 (fun _ => true) true k 2 [v3] = some y3 := by simpa [rep_e, rep_i, rep_b, Value.cells] using hfi 3 _ rfl
    have g4 : DataW.trod enc Try.prog W 0 (fun _ => true) true k 2 [v4] = some y4 := by simpa [rep_e, rep_i, rep_b, Value.cells] using hfi 4 _ rfl
    have g5 : DataW.trod enc Try.prog W 0 (fun _ => true) true k 2 [v5] = some y5 := by simpa [rep_e, rep_i, rep_b, Value.cells] using hfi 5 _ rfl
    obtain ⟨z0, e0, _, w0⟩ := DataW.trod_int Try.underlying28 g0
    obtain ⟨z1, e1, _⟩ := DataW.trod_bool Try.underlying4 g1
    obtain ⟨z2, e2, _, w2⟩ := DataW.trod_int Try.underlying2 g2
    obtain ⟨z3, e3, _, w3⟩ := DataW.trod_int Try.underlying2 g3
    obtain ⟨z4, e4, _, w4⟩ := DataW.trod_int Try.underlying2 g4
    obtain ⟨z5, e5, _, w5⟩ := DataW.trod_int Try.underlying2 g5
    simp only [List.cons.injEq, and_true] at e0 e1 e2 e3 e4 e5
    exact ⟨z0, z1, z2, z3, z4, z5, e0, e1, e2, e3, e4, e5⟩
theorem op22_open {H : Type} {enc : TypeId × Value → H} {W : World} {b0 : Nat} {v : Value} {d : DataW H} {p : List MemPlace}
    (hv : Value.okWide Try.prog W .any b0 92 v) (h : DataW.Trod enc Try.prog W 0 (fun _ => true) true 92 v d p) :
    ∃ (o : Nat) (A : Option Addr) (n c : Nat) (xs : List Nat) (r : RpV), v = OpA o A n c r ∧ o < 256 ∧ Arg W W.heap.size A n c xs ∧
      (c = 0 ∨ ∃ elems spare e0 e2, d = .agg [e0, .slice elems spare, e2] ∧ elems.length + spare.length = c) := by
  obtain ⟨cs, rfl, hsz⟩ := okWide_struct Try.underlying92 hv
  obtain ⟨fuel, hf⟩ := h
  obtain ⟨cs⟩ := cs
  have hlen : cs.length = 8 := by have := hsz.trans op22_cells; simpa using this
  obtain ⟨xs, k, hk, hxy, _, hxl, hfi⟩ := DataW.trod_struct Try.underlying92 hf
  match xs, hxl, cs, hlen with
  | [y0, y1, y2], _, [v0, v1, v2, v3, v4, v5, v6, v7], _ =>
    have g0 : DataW.trod enc Try.prog W 0 (fun _ => true) true k 5 [v0] = some y0 := by simpa [op22_8, op22_s, rep_cells, Value.cells] using hfi 0 _ rfl
    have g1 : DataW.trod enc Try.prog W 0 (fun _ => true) true k 22 [v1] = some y1 := by simpa [op22_8, op22_s, rep_cells, Value.cells] using hfi 1 _ rfl
    have g2 : DataW.trod enc Try.prog W 0 (fun _ => true) true k 82 [v2, v3, v4, v5, v6, v7] = some y2 := by simpa [op22_8, op22_s, rep_cells, Value.cells] using hfi 2 _ rfl
    obtain ⟨o0, e0, hd0, wo⟩ := DataW.trod_int Try.underlying5 g0
    simp only [List.cons.injEq, and_true] at e0
    subst e0
    have hby := bounds_u8 wo
    obtain ⟨o, rfl⟩ : ∃ o : Nat, o0 = (o : Int) := ⟨o0.toNat, by omega⟩
    obtain ⟨E, G, a, b, q, dd, rfl, rfl, rfl, rfl, rfl, rfl⟩ := reply_list g2
    have hdd : d = .agg [y0.1, y1.1, y2.1] := by
      have := congrArg Prod.fst hxy
      simpa using this
    rcases open_ints Try.underlying22 Try.underlying5 u8_cells g1 with ⟨hcs, hx0⟩ | ⟨x, l, c, zs, hcs, _, hl, hm, hz, hx, hcell, hwz⟩
    · simp only [List.cons.injEq, and_true] at hcs
      subst hcs
      exact ⟨o, none, 0, 0, [], ⟨E, G, a, b, q, dd⟩, rfl, by omega, Arg.nil _ _, .inl rfl⟩
    · simp only [List.cons.injEq, and_true] at hcs
      subst hcs
      have hzc : zs.length = c := by simpa using hz
      have hd : y1.1 = .slice (lits .u8 (zs.take l)) (lits .u8 (zs.drop l)) := congrArg Prod.fst hx
      refine ⟨o, some x, l, c, (zs.take l).map Int.toNat, ⟨E, G, a, b, q, dd⟩, rfl, by omega, ⟨by simp; omega, hl, hm, fun d hd => ?_, (fun h => by cases h), fun hn => ?_⟩, .inr ⟨_, _, y0.1, y2.1, by rw [hdd, hd], by simp [lits]; omega⟩⟩
      · obtain ⟨z, hz, rfl⟩ := List.mem_map.1 hd
        exact (byte_of_wf (hwz z (List.mem_of_mem_take hz))).2
      · have h0 := hcell 0 (by omega)
        obtain ⟨b, off, spot⟩ := x
        have hspot : spot = none := by simpa [Addr.add] using World.cell?_spot h0
        subst hspot
        refine ⟨b, off, rfl, ?_, fun k hk => ?_⟩
        · exact World.block_lt_of_cell? W _ (by simpa [Addr.add] using h0)
        · have hk' := hcell k (by omega)
          have e1 : ((zs.take l).map Int.toNat).getD k 0 = (zs.getD k 0).toNat := by
            simp [List.getD_eq_getElem?_getD, hk, show k < zs.length by omega]
          have hm : zs.getD k 0 ∈ zs := by
            rw [List.getD_eq_getElem?_getD, List.getElem?_eq_getElem (by omega)]
            exact List.getElem_mem _
          rw [e1, (byte_of_wf (hwz _ hm)).1, ← hk']
          by_cases h0 : k = 0 <;> simp [Addr.add, h0]
theorem op22_sized {H : Type} {ts : List TypeId} {ds : List (DataW H)} (h : (DataW.weightsEach Try.prog ts ds).all (· ≤ reachBytes) = true) {j : Nat} {e0 e2 : DataW H} {elems spare : List (DataW H)}
    (ht : ts[j]? = some 92) (hd : ds[j]? = some (.agg [e0, .slice elems spare, e2])) : elems.length + spare.length ≤ 140737488351232 := by
  have := List.all_eq_true.1 h _ (DataW.weights_mem_each ht hd ((elems.length + spare.length) * 1) (by simp [DataW.weights, DataW.weightsEach, Try.underlying92, Try.underlying22, u8_bytes]))
  have h2 := of_decide_eq_true this
  unfold reachBytes at h2
  omega
end Go.Proofs.Ytndgladfcogiiaa
