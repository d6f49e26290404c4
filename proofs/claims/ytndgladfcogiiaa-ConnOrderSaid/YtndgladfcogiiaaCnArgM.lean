/- Lists of calls and of replies that come in, opened. -/
import Derived.Test.YtndgladfcogiiaaArg
import Derived.WalkKit
import Derived.ProofKit
import Derived.OpenShut
import Derived.SizedLaws
import Derived.Lib.SmallJoins
import Derived.Test.YtndgladfcogiiaaCnAll
import Derived.Deep.Slices

/- Tokens, replies, calls, operations that come in by value. -/

/- A token that comes in by value, opened. -/
namespace Go.Proofs.Ytndgladfcogiiaa
open Go.ChangeShapes Go.WideShapes Go.ChangeAt Go.RowKit
set_option maxRecDepth 100000

theorem tok_cells : Try.prog.cellsOf 24 = 3 := by kernel_rfl
theorem u8_cells : Try.prog.cellsOf 5 = 1 := by kernel_rfl
theorem u8_bytes : Try.prog.bytesOf 5 = 1 := by kernel_rfl
theorem tok_open {H : Type} {enc : TypeId × Value → H} {W : World} {b0 : Nat} {v : Value} {d : DataW H} {p : List MemPlace}
    (hv : Value.okWide Try.prog W .any b0 24 v) (h : DataW.Trod enc Try.prog W 0 (fun _ => true) true 24 v d p) :
    ∃ (pm : Int) (A : Option Addr) (n c : Nat) (xs : List Nat) (s : Int), v = .agg #[.int .i64 pm, .slice A n c, .int .i64 s] ∧ Arg W W.heap.size A n c xs ∧
      (c = 0 ∨ ∃ elems spare, d = .agg [.lit (.int .i64 pm), .slice elems spare, .lit (.int .i64 s)] ∧ elems.length + spare.length = c) := by
  obtain ⟨c0, c1, c2, y0, y1, y2, m, rfl, rfl, rfl, hy0, hy1, hy2⟩ := Joins.open_agg3 Try.underlying24 (by kernel_rfl) tok_cells hv h
  obtain ⟨a, e0, rfl, wa⟩ := DataW.trod_int Try.underlying3 hy0
  simp at e0
  subst e0
  obtain ⟨s, e2, rfl, ws⟩ := DataW.trod_int Try.underlying2 hy2
  simp at e2
  subst e2
  rcases open_ints Try.underlying22 Try.underlying5 u8_cells hy1 with ⟨hcs, hx0⟩ | ⟨x, l, c, zs, hcs, _, hl, hm, hz, hx, hcell, hwz⟩
  · simp only [List.cons.injEq, and_true] at hcs
    subst hcs
    exact ⟨a, none, 0, 0, [], s, rfl, Arg.nil _ _, .inl rfl⟩
  · simp only [List.cons.injEq, and_true] at hcs
    subst hcs
    have hzc : zs.length = c := by simpa using hz
    have hd : y1.1 = .slice (lits .u8 (zs.take l)) (lits .u8 (zs.drop l)) := congrArg Prod.fst hx
    refine ⟨a, some x, l, c, (zs.take l).map Int.toNat, s, rfl, ⟨by simp; omega, hl, hm, fun d hd => ?_, (fun h => by cases h), fun hn => ?_⟩, .inr ⟨_, _, by rw [hd], by simp [lits]; omega⟩⟩
    · obtain ⟨z, hz, rfl⟩ := List.mem_map.1 hd
      exact (byte_of_wf (hwz z (List.mem_of_mem_take hz))).2
    · have h0 := hcell 0 (by omega)
      obtain ⟨b, off, spot⟩ := x
      have hspot : spot = none := by simpa [Addr.add] using World.cell?_spot h0
      subst hspot
      refine ⟨b, off, rfl, ?_, fun k hk => ?_⟩
      · exact World.block_lt_of_cell? W _ (by simpa [Addr.add] using h0)
      · have hk' := hcell k (by omega)
        have e1 : ((zs.take l).map Int.toNat).getD k 0 = (zs.getD k 0).toNat := by
          simp [List.getD_eq_getElem?_getD, hk, show k < zs.length by omega]
        have hm : zs.getD k 0 ∈ zs := by
          rw [List.getD_eq_getElem?_getD, List.getElem?_eq_getElem (by omega)]
          exact List.getElem_mem _
        rw [e1, (byte_of_wf (hwz _ hm)).1, ← hk']
        by_cases h0 : k = 0 <;> simp [Addr.add, h0]
theorem tok_sized {H : Type} {ts : List TypeId} {ds : List (DataW H)} (h : (DataW.weightsEach Try.prog ts ds).all (· ≤ reachBytes) = true) {j : Nat} {pm s : Int} {elems spare : List (DataW H)}
    (ht : ts[j]? = some 24) (hd : ds[j]? = some (.agg [.lit (.int .i64 pm), .slice elems spare, .lit (.int .i64 s)])) : elems.length + spare.length ≤ 140737488351232 := by
  have := List.all_eq_true.1 h _ (DataW.weights_mem_each ht hd ((elems.length + spare.length) * 1) (by simp [DataW.weights, DataW.weightsEach, Try.underlying24, Try.underlying22, u8_bytes]))
  have h2 := of_decide_eq_true this
  unfold reachBytes at h2
  omega
end Go.Proofs.Ytndgladfcogiiaa


/- Replies and calls that come in by value, opened. -/
namespace Go.Proofs.Ytndgladfcogiiaa
open Go.ChangeShapes Go.WideShapes Go.ChangeAt Go.RowKit
set_option maxRecDepth 100000
set_option linter.unusedVariables false

theorem rep_cells : Try.prog.cellsOf 82 = 6 := by kernel_rfl
theorem rep_i : Try.prog.cellsOf 2 = 1 := by kernel_rfl
theorem rep_b : Try.prog.cellsOf 4 = 1 := by kernel_rfl
theorem rep_e : Try.prog.cellsOf 28 = 1 := by kernel_rfl
theorem reply_open {H : Type} {enc : TypeId × Value → H} {W : World} {b0 : Nat} {v : Value} {d : DataW H} {p : List MemPlace}
    (hv : Value.okWide Try.prog W .any b0 82 v) (h : DataW.Trod enc Try.prog W 0 (fun _ => true) true 82 v d p) :
    ∃ (E : Int) (G : Bool) (a b q d : Int), v = .agg #[.int .i64 E, .bool G, .int .i64 a, .int .i64 b, .int .i64 q, .int .i64 d] := by
  obtain ⟨cs, rfl, hsz⟩ := okWide_struct Try.underlying82 hv
  obtain ⟨fuel, hf⟩ := h
  obtain ⟨cs⟩ := cs
  have hlen : cs.length = 6 := by have := hsz.trans rep_cells; simpa using this
  obtain ⟨xs, k, hk, hxy, _, hxl, hfi⟩ := DataW.trod_struct Try.underlying82 hf
  match xs, hxl, cs, hlen with
  | [y0, y1, y2, y3, y4, y5], _, [v0, v1, v2, v3, v4, v5], _ =>
    have g0 : DataW.trod enc Try.prog W 0 (fun _ => true) true k 28 [v0] = some y0 := by simpa [rep_e, rep_i, rep_b, Value.cells] using hfi 0 _ rfl
    have g1 : DataW.trod enc Try.prog W 0 (fun _ => true) true k 4 [v1] = some y1 := by simpa [rep_e, rep_i, rep_b, Value.cells] using hfi 1 _ rfl
    have g2 : DataW.trod enc Try.prog W 0 (fun _ => true) true k 2 [v2] = some y2 := by simpa [rep_e, rep_i, rep_b, Value.cells] using hfi 2 _ rfl
    have g3 : DataW.trod enc Try.prog W 0 (fun _ => true) true k 2 [v3] = some y3 := by simpa [rep_e, rep_i, rep_b, Value.cells] using hfi 3 _ rfl
    have g4 : DataW.trod enc Try.prog W 0 (fun _ => true) true k 2 [v4] = some y4 := by simpa [rep_e, rep_i, rep_b, Value.cells] using hfi 4 _ rfl
    have g5 : DataW.trod enc Try.prog W 0 (fun _ => true) true k 2 [v5] = some y5 := by simpa [rep_e, rep_i, rep_b, Value.cells] using hfi 5 _ rfl
    obtain ⟨z0, e0, _, w0⟩ := DataW.trod_int Try.underlying28 g0
    obtain ⟨z1, e1, _⟩ := DataW.trod_bool Try.underlying4 g1
    obtain ⟨z2, e2, _, w2⟩ := DataW.trod_int Try.underlying2 g2
    obtain ⟨z3, e3, _, w3⟩ := DataW.trod_int Try.underlying2 g3
    obtain ⟨z4, e4, _, w4⟩ := DataW.trod_int Try.underlying2 g4
    obtain ⟨z5, e5, _, w5⟩ := DataW.trod_int Try.underlying2 g5
    simp only [List.cons.injEq, and_true] at e0 e1 e2 e3 e4 e5
    exact ⟨z0, z1, z2, z3, z4, z5, by rw [e0, e1, e2, e3, e4, e5]⟩
theorem call_cells : Try.prog.cellsOf 71 = 4 := by kernel_rfl
theorem call_open {H : Type} {enc : TypeId × Value → H} {W : World} {b0 : Nat} {v : Value} {d : DataW H} {p : List MemPlace}
    (hv : Value.okWide Try.prog W .any b0 71 v) (h : DataW.Trod enc Try.prog W 0 (fun _ => true) true 71 v d p) :
    ∃ (o : Nat) (pm : Int) (A : Option Addr) (n c : Nat) (xs : List Nat) (s : Int), v = .agg #[.int .u8 (o : Int), .int .i64 pm, .slice A n c, .int .i64 s] ∧ o < 256 ∧ Arg W W.heap.size A n c xs ∧
      (c = 0 ∨ ∃ elems spare, d = .agg [.lit (.int .u8 (o : Int)), .lit (.int .i64 pm), .slice elems spare, .lit (.int .i64 s)] ∧ elems.length + spare.length = c) := by
  obtain ⟨c0, c1, c2, c3, y0, y1, y2, y3, m, rfl, rfl, rfl, hy0, hy1, hy2, hy3⟩ := Joins.open_agg4 Try.underlying71 (by kernel_rfl) call_cells hv h
  obtain ⟨o0, e0, hd0, wo⟩ := DataW.trod_int Try.underlying5 hy0
  simp at e0
  subst e0
  have hby := bounds_u8 wo
  obtain ⟨o, rfl⟩ : ∃ o : Nat, o0 = (o : Int) := ⟨o0.toNat, by omega⟩
  obtain ⟨a, e1, hd1, wa⟩ := DataW.trod_int Try.underlying3 hy1
  simp at e1
  subst e1
  obtain ⟨s, e3, hd3, ws⟩ := DataW.trod_int Try.underlying2 hy3
  simp at e3
  subst e3
  subst hd0 hd1 hd3
  rcases open_ints Try.underlying22 Try.underlying5 u8_cells hy2 with ⟨hcs, hx0⟩ | ⟨x, l, c, zs, hcs, _, hl, hm, hz, hx, hcell, hwz⟩
  · simp only [List.cons.injEq, and_true] at hcs
    subst hcs
    exact ⟨o, a, none, 0, 0, [], s, rfl, by omega, Arg.nil _ _, .inl rfl⟩
  · simp only [List.cons.injEq, and_true] at hcs
    subst hcs
    have hzc : zs.length = c := by simpa using hz
    have hd : y2.1 = .slice (lits .u8 (zs.take l)) (lits .u8 (zs.drop l)) := congrArg Prod.fst hx
    refine ⟨o, a, some x, l, c, (zs.take l).map Int.toNat, s, rfl, by omega, ⟨by simp; omega, hl, hm, fun d hd => ?_, (fun h => by cases h), fun hn => ?_⟩, .inr ⟨_, _, by rw [hd], by simp [lits]; omega⟩⟩
    · obtain ⟨z, hz, rfl⟩ := List.mem_map.1 hd
      exact (byte_of_wf (hwz z (List.mem_of_mem_take hz))).2
    · have h0 := hcell 0 (by omega)
      obtain ⟨b, off, spot⟩ := x
      have hspot : spot = none := by simpa [Addr.add] using World.cell?_spot h0
      subst hspot
      refine ⟨b, off, rfl, ?_, fun k hk => ?_⟩
      · exact World.block_lt_of_cell? W _ (by simpa [Addr.add] using h0)
      · have hk' := hcell k (by omega)
        have e1 : ((zs.take l).map Int.toNat).getD k 0 = (zs.getD k 0).toNat := by
          simp [List.getD_eq_getElem?_getD, hk, show k < zs.length by omega]
        have hm : zs.getD k 0 ∈ zs := by
          rw [List.getD_eq_getElem?_getD, List.getElem?_eq_getElem (by omega)]
          exact List.getElem_mem _
        rw [e1, (byte_of_wf (hwz _ hm)).1, ← hk']
        by_cases h0 : k = 0 <;> simp [Addr.add, h0]
theorem call_sized {H : Type} {ts : List TypeId} {ds : List (DataW H)} (h : (DataW.weightsEach Try.prog ts ds).all (· ≤ reachBytes) = true) {j : Nat} {o pm s : Int} {elems spare : List (DataW H)}
    (ht : ts[j]? = some 71) (hd : ds[j]? = some (.agg [.lit (.int .u8 o), .lit (.int .i64 pm), .slice elems spare, .lit (.int .i64 s)])) : elems.length + spare.length ≤ 140737488351232 := by
  have := List.all_eq_true.1 h _ (DataW.weights_mem_each ht hd ((elems.length + spare.length) * 1) (by simp [DataW.weights, DataW.weightsEach, Try.underlying71, Try.underlying22, u8_bytes]))
  have h2 := of_decide_eq_true this
  unfold reachBytes at h2
  omega
end Go.Proofs.Ytndgladfcogiiaa


/- An operation of the law's script that comes in by value, opened. -/
namespace Go.Proofs.Ytndgladfcogiiaa
open Go.ChangeShapes Go.WideShapes Go.ChangeAt Go.RowKit
set_option maxRecDepth 100000
set_option linter.unusedVariables false

theorem op22_cells : Try.prog.cellsOf 92 = 8 := by kernel_rfl
theorem op22_8 : Try.prog.cellsOf 5 = 1 := by kernel_rfl
theorem op22_s : Try.prog.cellsOf 22 = 1 := by kernel_rfl
theorem reply_list {H : Type} {enc : TypeId × Value → H} {W : World} {f : Nat} {v0 v1 v2 v3 v4 v5 : Value} {y : DataW H × List MemPlace} (hf : DataW.trod enc Try.prog W 0 (fun _ => true) true f 82 [v0, v1, v2, v3, v4, v5] = some y) :
    ∃ (E : Int) (G : Bool) (a b q d : Int), v0 = .int .i64 E ∧ v1 = .bool G ∧ v2 = .int .i64 a ∧ v3 = .int .i64 b ∧ v4 = .int .i64 q ∧ v5 = .int .i64 d := by
  obtain ⟨xs, k, hk, hxy, _, hxl, hfi⟩ := DataW.trod_struct Try.underlying82 hf
  match xs, hxl with
  | [y0, y1, y2, y3, y4, y5], _ =>
    have g0 : DataW.trod enc Try.prog W 0 (fun _ => true) true k 28 [v0] = some y0 := by simpa [rep_e, rep_i, rep_b, Value.cells] using hfi 0 _ rfl
    have g1 : DataW.trod enc Try.prog W 0 (fun _ => true) true k 4 [v1] = some y1 := by simpa [rep_e, rep_i, rep_b, Value.cells] using hfi 1 _ rfl
    have g2 : DataW.trod enc Try.prog W 0 (fun _ => true) true k 2 [v2] = some y2 := by simpa [rep_e, rep_i, rep_b, Value.cells] using hfi 2 _ rfl
    have g3 : DataW.trod enc Try.prog W 0 (fun _ => true) true k 2 [v3] = some y3 := by simpa [rep_e, rep_i, rep_b, Value.cells] using hfi 3 _ rfl
    have g4 : DataW.trod enc Try.prog W 0 (fun _ => true) true k 2 [v4] = some y4 := by simpa [rep_e, rep_i, rep_b, Value.cells] using hfi 4 _ rfl
    have g5 : DataW.trod enc Try.prog W 0 (fun _ => true) true k 2 [v5] = some y5 := by simpa [rep_e, rep_i, rep_b, Value.cells] using hfi 5 _ rfl
    obtain ⟨z0, e0, _, w0⟩ := DataW.trod_int Try.underlying28 g0
    obtain ⟨z1, e1, _⟩ := DataW.trod_bool Try.underlying4 g1
    obtain ⟨z2, e2, _, w2⟩ := DataW.trod_int Try.underlying2 g2
    obtain ⟨z3, e3, _, w3⟩ := DataW.trod_int Try.underlying2 g3
    obtain ⟨z4, e4, _, w4⟩ := DataW.trod_int Try.underlying2 g4
    obtain ⟨z5, e5, _, w5⟩ := DataW.trod_int Try.underlying2 g5
    simp only [List.cons.injEq, and_true] at e0 e1 e2 e3 e4 e5
    exact ⟨z0, z1, z2, z3, z4, z5, e0, e1, e2, e3, e4, e5⟩
theorem op22_open {H : Type} {enc : TypeId × Value → H} {W : World} {b0 : Nat} {v : Value} {d : DataW H} {p : List MemPlace}
    (hv : Value.okWide Try.prog W .any b0 92 v) (h : DataW.Trod enc Try.prog W 0 (fun _ => true) true 92 v d p) :
    ∃ (o : Nat) (A : Option Addr) (n c : Nat) (xs : List Nat) (r : RpV), v = OpA o A n c r ∧ o < 256 ∧ Arg W W.heap.size A n c xs ∧
      (c = 0 ∨ ∃ elems spare e0 e2, d = .agg [e0, .slice elems spare, e2] ∧ elems.length + spare.length = c) := by
  obtain ⟨cs, rfl, hsz⟩ := okWide_struct Try.underlying92 hv
  obtain ⟨fuel, hf⟩ := h
  obtain ⟨cs⟩ := cs
  have hlen : cs.length = 8 := by have := hsz.trans op22_cells; simpa using this
  obtain ⟨xs, k, hk, hxy, _, hxl, hfi⟩ := DataW.trod_struct Try.underlying92 hf
  match xs, hxl, cs, hlen with
  | [y0, y1, y2], _, [v0, v1, v2, v3, v4, v5, v6, v7], _ =>
    have g0 : DataW.trod enc Try.prog W 0 (fun _ => true) true k 5 [v0] = some y0 := by simpa [op22_8, op22_s, rep_cells, Value.cells] using hfi 0 _ rfl
    have g1 : DataW.trod enc Try.prog W 0 (fun _ => true) true k 22 [v1] = some y1 := by simpa [op22_8, op22_s, rep_cells, Value.cells] using hfi 1 _ rfl
    have g2 : DataW.trod enc Try.prog W 0 (fun _ => true) true k 82 [v2, v3, v4, v5, v6, v7] = some y2 := by simpa [op22_8, op22_s, rep_cells, Value.cells] using hfi 2 _ rfl
    obtain ⟨o0, e0, hd0, wo⟩ := DataW.trod_int Try.underlying5 g0
    simp only [List.cons.injEq, and_true] at e0
    subst e0
    have hby := bounds_u8 wo
    obtain ⟨o, rfl⟩ : ∃ o : Nat, o0 = (o : Int) := ⟨o0.toNat, by omega⟩
    obtain ⟨E, G, a, b, q, dd, rfl, rfl, rfl, rfl, rfl, rfl⟩ := reply_list g2
    have hdd : d = .agg [y0.1, y1.1, y2.1] := by
      have := congrArg Prod.fst hxy
      simpa using this
    rcases open_ints Try.underlying22 Try.underlying5 u8_cells g1 with ⟨hcs, hx0⟩ | ⟨x, l, c, zs, hcs, _, hl, hm, hz, hx, hcell, hwz⟩
    · simp only [List.cons.injEq, and_true] at hcs
      subst hcs
      exact ⟨o, none, 0, 0, [], ⟨E, G, a, b, q, dd⟩, rfl, by omega, Arg.nil _ _, .inl rfl⟩
    · simp only [List.cons.injEq, and_true] at hcs
      subst hcs
      have hzc : zs.length = c := by simpa using hz
      have hd : y1.1 = .slice (lits .u8 (zs.take l)) (lits .u8 (zs.drop l)) := congrArg Prod.fst hx
      refine ⟨o, some x, l, c, (zs.take l).map Int.toNat, ⟨E, G, a, b, q, dd⟩, rfl, by omega, ⟨by simp; omega, hl, hm, fun d hd => ?_, (fun h => by cases h), fun hn => ?_⟩, .inr ⟨_, _, y0.1, y2.1, by rw [hdd, hd], by simp [lits]; omega⟩⟩
      · obtain ⟨z, hz, rfl⟩ := List.mem_map.1 hd
        exact (byte_of_wf (hwz z (List.mem_of_mem_take hz))).2
      · have h0 := hcell 0 (by omega)
        obtain ⟨b, off, spot⟩ := x
        have hspot : spot = none := by simpa [Addr.add] using World.cell?_spot h0
        subst hspot
        refine ⟨b, off, rfl, ?_, fun k hk => ?_⟩
        · exact World.block_lt_of_cell? W _ (by simpa [Addr.add] using h0)
        · have hk' := hcell k (by omega)
          have e1 : ((zs.take l).map Int.toNat).getD k 0 = (zs.getD k 0).toNat := by
            simp [List.getD_eq_getElem?_getD, hk, show k < zs.length by omega]
          have hm : zs.getD k 0 ∈ zs := by
            rw [List.getD_eq_getElem?_getD, List.getElem?_eq_getElem (by omega)]
            exact List.getElem_mem _
          rw [e1, (byte_of_wf (hwz _ hm)).1, ← hk']
          by_cases h0 : k = 0 <;> simp [Addr.add, h0]
theorem op22_sized {H : Type} {ts : List TypeId} {ds : List (DataW H)} (h : (DataW.weightsEach Try.prog ts ds).all (· ≤ reachBytes) = true) {j : Nat} {e0 e2 : DataW H} {elems spare : List (DataW H)}
    (ht : ts[j]? = some 92) (hd : ds[j]? = some (.agg [e0, .slice elems spare, e2])) : elems.length + spare.length ≤ 140737488351232 := by
  have := List.all_eq_true.1 h _ (DataW.weights_mem_each ht hd ((elems.length + spare.length) * 1) (by simp [DataW.weights, DataW.weightsEach, Try.underlying92, Try.underlying22, u8_bytes]))
  have h2 := of_decide_eq_true this
  unfold reachBytes at h2
  omega
end Go.Proofs.Ytndgladfcogiiaa


/- Lists of calls that come in, opened. -/
namespace Go.Proofs.Ytndgladfcogiiaa
open Go.ChangeShapes Go.WideShapes Go.ChangeAt Go.RowKit Go.Deep
set_option maxRecDepth 100000
set_option linter.unusedVariables false

abbrev noCl : ClR := ⟨0, 0, 0, none, 0, []⟩
/-- Calls that are read. -/
structure ClsA (w : World) (B : Nat) (A : Option Addr) (n c : Nat) (L : List ClR) : Prop where
  len : L.length = n
  le : n ≤ c
  cap : c ≤ maxLen
  at_ : 0 < n → ∃ b off, A = some ⟨b, off, none⟩ ∧ b < B ∧ ∀ i j v, i < n → (L.getD i noCl).cells[j]? = some v → w.cell? ⟨b, off + i * 4 + j, none⟩ = some v
  key : ∀ e ∈ L, Arg w B e.A e.ks.length e.c e.ks ∧ e.o < 256 ∧ e.c ≤ 140737488351232
section
variable {w w' : World} {B B' n c : Nat} {A : Option Addr} {L : List ClR}
theorem ClsA.below (h : ClsA w B A n c L) (hb : Below B w w') : ClsA w' B A n c L :=
  ⟨h.len, h.le, h.cap, fun hn => by
    obtain ⟨b, off, e, hB, hc⟩ := h.at_ hn
    exact ⟨b, off, e, hB, fun i j v hi hv => (hb.cell (p := ⟨b, off + i * 4 + j, none⟩) hB).trans (hc i j v hi hv)⟩, fun e he => ⟨(h.key e he).1.below hb, (h.key e he).2⟩⟩
theorem cl_mem {i : Nat} (h : i < L.length) : L.getD i noCl ∈ L := by
  rw [List.getD_eq_getElem?_getD, List.getElem?_eq_getElem h]; exact List.getElem_mem h
end
theorem ca_call : Try.prog.cellsOf 71 = 4 := by kernel_rfl
theorem ca_b8 : Try.prog.bytesOf 5 = 1 := by kernel_rfl
theorem ca_int : Try.prog.cellsOf 3 = 1 := by kernel_rfl
theorem ca_i64 : Try.prog.cellsOf 2 = 1 := by kernel_rfl
theorem cl_addr (b off k : Nat) : (⟨b, off, none⟩ : Addr).add k = ⟨b, off + k, none⟩ := by unfold Addr.add; split <;> simp_all
theorem cl_key {H : Type} {enc : TypeId × Value → H} {W : World} {n : Nat} {cs : List Value} {x : DataW H × List MemPlace} (h : DataW.trod enc Try.prog W 0 (fun _ => true) true n 22 cs = some x) (hw : ∀ m ∈ x.1.weights Try.prog 22, m ≤ reachBytes) :
    ∃ A len cap zs, cs = [.slice A len cap] ∧ Arg W W.heap.size A len cap zs ∧ cap ≤ 140737488351232 := by
  have hin : ∃ A len cap, cs = [.slice A len cap] := by
    rcases open_ints Try.underlying22 Try.underlying5 op22_8 h with ⟨hcs, _⟩ | ⟨a, l, c, zs, hcs, _⟩
    · exact ⟨none, 0, 0, hcs⟩
    · exact ⟨some a, l, c, hcs⟩
  obtain ⟨A, len, cap, rfl⟩ := hin
  obtain ⟨zs, ha, hz⟩ := Arg.of_trod (d := x.1) (p := x.2) Try.underlying22 Try.underlying5 op22_8 ⟨n, h⟩
  refine ⟨A, len, cap, zs, rfl, ha, ?_⟩
  rcases hz with hz | ⟨el, sp, e, hl⟩
  · omega
  · rw [e] at hw
    have := hw ((el.length + sp.length) * Try.prog.bytesOf 5) (by simp [DataW.weights, Try.underlying22])
    rw [ca_b8] at this
    simp only [reachBytes] at this
    omega
theorem cl_one {H : Type} {enc : TypeId × Value → H} {W : World} {n : Nat} {cs : List Value} {x : DataW H × List MemPlace} (hlen : cs.length = 4)
    (h : DataW.trod enc Try.prog W 0 (fun _ => true) true n 71 cs = some x) (hw : ∀ m ∈ x.1.weights Try.prog 71, m ≤ reachBytes) : ∃ o : ClR, (Arg W W.heap.size o.A o.ks.length o.c o.ks ∧ o.o < 256 ∧ o.c ≤ 140737488351232) ∧ cs = o.cells := by
  obtain ⟨ys, k', hk', hyy, _, hyl, hg⟩ := DataW.trod_struct Try.underlying71 h
  match ys, hyl, cs, hlen with
  | [y0, y1, y2, y3], _, [v0, v1, v2, v3], _ =>
    have g0 : DataW.trod enc Try.prog W 0 (fun _ => true) true k' 5 [v0] = some y0 := by simpa [op22_8] using hg 0 _ rfl
    have g1 : DataW.trod enc Try.prog W 0 (fun _ => true) true k' 3 [v1] = some y1 := by simpa [ca_int] using hg 1 _ rfl
    have g2 : DataW.trod enc Try.prog W 0 (fun _ => true) true k' 22 [v2] = some y2 := by simpa [op22_s] using hg 2 _ rfl
    have g3 : DataW.trod enc Try.prog W 0 (fun _ => true) true k' 2 [v3] = some y3 := by simpa [ca_i64] using hg 3 _ rfl
    obtain ⟨z0, e0, _, w0⟩ := DataW.trod_int Try.underlying5 g0
    obtain ⟨z1, e1, _, _⟩ := DataW.trod_int Try.underlying3 g1
    obtain ⟨z3, e3, _, w3⟩ := DataW.trod_int Try.underlying2 g3
    have hy1 : x.1 = .agg [y0.1, y1.1, y2.1, y3.1] := by rw [hyy]; rfl
    rw [hy1] at hw
    obtain ⟨A, len, cap, zs, e2, ha, hcap⟩ := cl_key g2 (fun m hm => hw m (by
      simp only [DataW.weights, Try.underlying71]
      exact DataW.weights_mem_each (j := 2) rfl rfl m hm))
    simp only [List.cons.injEq, and_true] at e0 e1 e2 e3
    have b0 := bounds_u8 w0
    have e6 : ((z0.toNat : Nat) : Int) = z0 := Int.toNat_of_nonneg b0.1
    have hl := ha.len
    subst hl
    refine ⟨⟨z0.toNat, z1, z3, A, cap, zs⟩, ⟨ha, by simp only; omega, hcap⟩, ?_⟩
    rw [e0, e1, e2, e3]
    simp only [ClR.cells]
    rw [e6]
instance : Inhabited ClR := ⟨noCl⟩
theorem weightsAll_memC {H : Type} {P : Program} {e : TypeId} : ∀ {ds : List (DataW H)} {d : DataW H}, d ∈ ds → ∀ m ∈ d.weights P e, m ∈ DataW.weightsAll P e ds
  | [], d, hd, m, hm => by simp at hd
  | a :: r, d, hd, m, hm => by
    simp only [DataW.weightsAll, List.mem_append]
    rcases List.mem_cons.1 hd with rfl | hd
    · exact .inl hm
    · exact .inr (weightsAll_memC hd m hm)
theorem calls_open {H : Type} {enc : TypeId × Value → H} {W : World} {a : Option Addr} {len cap : Nat} {d : DataW H} {p : List MemPlace}
    (h : DataW.Trod enc Try.prog W 0 (fun _ => true) true 98 (.slice a len cap) d p) (hw : ∀ m ∈ d.weights Try.prog 98, m ≤ reachBytes) :
    ∃ l, ClsA W W.heap.size a len cap l ∧ (cap = 0 ∨ ∃ elems spare, d = .slice elems spare ∧ elems.length + spare.length = cap) := by
  obtain ⟨fuel, hf⟩ := h
  rcases open_slice Try.underlying98 hf with ⟨hcs, hx0⟩ | ⟨x, l, c, m, n, D, Pl, hcs, _, hl, hm, hmm, hx, hcell⟩
  · simp [Value.cells] at hcs
    obtain ⟨rfl, rfl, rfl⟩ := hcs
    exact ⟨[], ⟨rfl, Nat.le_refl _, by unfold maxLen; omega, fun h => absurd h (by omega), (fun x hx => by cases hx)⟩, .inl rfl⟩
  · simp [Value.cells] at hcs
    obtain ⟨rfl, rfl, rfl⟩ := hcs
    have hmc : m = cap := by simpa using hmm
    subst hmc
    have hd : d = .slice ((List.range len).map D) ((List.range (m - len)).map fun j => D (len + j)) := congrArg Prod.fst hx
    have hwD : ∀ i, i < len → ∀ q ∈ (D i).weights Try.prog 71, q ≤ reachBytes := by
      intro i hi q hq
      refine hw q ?_
      rw [hd]
      simp only [DataW.weights, Try.underlying98, List.mem_cons, List.mem_append]
      exact .inr (.inl (weightsAll_memC (List.mem_map.2 ⟨i, by simpa using hi, rfl⟩) q hq))
    have each : ∀ i, i < len → ∃ o : ClR, (Arg W W.heap.size o.A o.ks.length o.c o.ks ∧ o.o < 256 ∧ o.c ≤ 140737488351232) ∧ ∀ j, j < 4 → W.cell? ((x.add (i * 4)).add j) = o.cells[j]? := by
      intro i hi
      obtain ⟨cs', h1, h2⟩ := hcell i (by omega)
      rw [ca_call] at h1
      obtain ⟨_, hlen, hc⟩ := World.cells?_some h1
      obtain ⟨o, ho, rfl⟩ := cl_one hlen h2 (hwD i hi)
      exact ⟨o, ho, fun j hj => hc j hj⟩
    obtain ⟨f, hfo⟩ := choose_lt each
    refine ⟨(List.range len).map f, ⟨by simp, hl, hm, fun hn => ?_, fun y hy => ?_⟩, .inr ⟨_, _, hd, by simp; omega⟩⟩
    · have h0 : W.cell? ((x.add (0 * 4)).add 0) = some (.int .u8 ((f 0).o : Nat)) := (hfo 0 (by omega)).2 0 (by omega)
      obtain ⟨b, off, spot⟩ := x
      have hspot : spot = none := by simpa [Addr.add] using World.cell?_spot (w := W) h0
      subst hspot
      refine ⟨b, off, rfl, ?_, fun i j v hi hv => ?_⟩
      · exact World.block_lt_of_cell? W _ (by simpa [Addr.add] using h0)
      · have e3 : ((List.range len).map f).getD i noCl = f i := by simp [List.getD_eq_getElem?_getD, hi]
        rw [e3] at hv
        have hj : j < 4 := (List.getElem?_eq_some_iff.1 hv).1
        have hg := (hfo i hi).2 j hj
        rw [cl_addr, cl_addr] at hg
        rw [hg]; exact hv
    · obtain ⟨i, hi, rfl⟩ := List.mem_map.1 hy
      exact (hfo i (by simpa using hi)).1
end Go.Proofs.Ytndgladfcogiiaa


/- Lists of replies that come in, opened. -/
namespace Go.Proofs.Ytndgladfcogiiaa
open Go.ChangeShapes Go.WideShapes Go.ChangeAt Go.RowKit Go.Deep
set_option maxRecDepth 100000
set_option linter.unusedVariables false

abbrev noRp : RpV := ⟨0, false, 0, 0, 0, 0⟩
/-- Replies that are read. -/
structure RpsA (w : World) (B : Nat) (A : Option Addr) (n c : Nat) (L : List RpV) : Prop where
  len : L.length = n
  le : n ≤ c
  cap : c ≤ maxLen
  at_ : 0 < n → ∃ b off, A = some ⟨b, off, none⟩ ∧ b < B ∧ ∀ i j v, i < n → (L.getD i noRp).cells[j]? = some v → w.cell? ⟨b, off + i * 6 + j, none⟩ = some v
section
variable {w w' : World} {B n c : Nat} {A : Option Addr} {L : List RpV}
theorem RpsA.below (h : RpsA w B A n c L) (hb : Below B w w') : RpsA w' B A n c L :=
  ⟨h.len, h.le, h.cap, fun hn => by
    obtain ⟨b, off, e, hB, hc⟩ := h.at_ hn
    exact ⟨b, off, e, hB, fun i j v hi hv => (hb.cell (p := ⟨b, off + i * 6 + j, none⟩) hB).trans (hc i j v hi hv)⟩⟩
end
theorem rp_cells6 : Try.prog.cellsOf 82 = 6 := by kernel_rfl
theorem rp_one {H : Type} {enc : TypeId × Value → H} {W : World} {n : Nat} {cs : List Value} {x : DataW H × List MemPlace} (hlen : cs.length = 6)
    (h : DataW.trod enc Try.prog W 0 (fun _ => true) true n 82 cs = some x) : ∃ o : RpV, cs = o.cells := by
  obtain ⟨xs, k, hk, hxy, _, hxl, hfi⟩ := DataW.trod_struct Try.underlying82 h
  match xs, hxl, cs, hlen with
  | [y0, y1, y2, y3, y4, y5], _, [v0, v1, v2, v3, v4, v5], _ =>
    have g0 : DataW.trod enc Try.prog W 0 (fun _ => true) true k 28 [v0] = some y0 := by simpa [rep_e, rep_i, rep_b, Value.cells] using hfi 0 _ rfl
    have g1 : DataW.trod enc Try.prog W 0 (fun _ => true) true k 4 [v1] = some y1 := by simpa [rep_e, rep_i, rep_b, Value.cells] using hfi 1 _ rfl
    have g2 : DataW.trod enc Try.prog W 0 (fun _ => true) true k 2 [v2] = some y2 := by simpa [rep_e, rep_i, rep_b, Value.cells] using hfi 2 _ rfl
    have g3 : DataW.trod enc Try.prog W 0 (fun _ => true) true k 2 [v3] = some y3 := by simpa [rep_e, rep_i, rep_b, Value.cells] using hfi 3 _ rfl
    have g4 : DataW.trod enc Try.prog W 0 (fun _ => true) true k 2 [v4] = some y4 := by simpa [rep_e, rep_i, rep_b, Value.cells] using hfi 4 _ rfl
    have g5 : DataW.trod enc Try.prog W 0 (fun _ => true) true k 2 [v5] = some y5 := by simpa [rep_e, rep_i, rep_b, Value.cells] using hfi 5 _ rfl
    obtain ⟨z0, e0, _, w0⟩ := DataW.trod_int Try.underlying28 g0
    obtain ⟨z1, e1, _⟩ := DataW.trod_bool Try.underlying4 g1
    obtain ⟨z2, e2, _, w2⟩ := DataW.trod_int Try.underlying2 g2
    obtain ⟨z3, e3, _, w3⟩ := DataW.trod_int Try.underlying2 g3
    obtain ⟨z4, e4, _, w4⟩ := DataW.trod_int Try.underlying2 g4
    obtain ⟨z5, e5, _, w5⟩ := DataW.trod_int Try.underlying2 g5
    simp only [List.cons.injEq, and_true] at e0 e1 e2 e3 e4 e5
    exact ⟨⟨z0, z1, z2, z3, z4, z5⟩, by rw [e0, e1, e2, e3, e4, e5]⟩
instance : Inhabited RpV := ⟨noRp⟩
theorem replies_open {H : Type} {enc : TypeId × Value → H} {W : World} {a : Option Addr} {len cap : Nat} {d : DataW H} {p : List MemPlace}
    (h : DataW.Trod enc Try.prog W 0 (fun _ => true) true 99 (.slice a len cap) d p) : ∃ l, RpsA W W.heap.size a len cap l := by
  obtain ⟨fuel, hf⟩ := h
  rcases open_slice Try.underlying99 hf with ⟨hcs, hx0⟩ | ⟨x, l, c, m, n, D, Pl, hcs, _, hl, hm, hmm, hx, hcell⟩
  · simp [Value.cells] at hcs
    obtain ⟨rfl, rfl, rfl⟩ := hcs
    exact ⟨[], ⟨rfl, Nat.le_refl _, by unfold maxLen; omega, fun h => absurd h (by omega)⟩⟩
  · simp [Value.cells] at hcs
    obtain ⟨rfl, rfl, rfl⟩ := hcs
    have hmc : m = cap := by simpa using hmm
    subst hmc
    have each : ∀ i, i < len → ∃ o : RpV, ∀ j, j < 6 → W.cell? ((x.add (i * 6)).add j) = o.cells[j]? := by
      intro i hi
      obtain ⟨cs', h1, h2⟩ := hcell i (by omega)
      rw [rp_cells6] at h1
      obtain ⟨_, hlen, hc⟩ := World.cells?_some h1
      obtain ⟨o, rfl⟩ := rp_one hlen h2
      exact ⟨o, fun j hj => hc j hj⟩
    obtain ⟨f, hfo⟩ := choose_lt each
    refine ⟨(List.range len).map f, ⟨by simp, hl, hm, fun hn => ?_⟩⟩
    have h0 : W.cell? ((x.add (0 * 6)).add 0) = some (.int .i64 (f 0).E) := hfo 0 (by omega) 0 (by omega)
    obtain ⟨b, off, spot⟩ := x
    have hspot : spot = none := by simpa [Addr.add] using World.cell?_spot (w := W) h0
    subst hspot
    refine ⟨b, off, rfl, ?_, fun i j v hi hv => ?_⟩
    · exact World.block_lt_of_cell? W _ (by simpa [Addr.add] using h0)
    · have e3 : ((List.range len).map f).getD i noRp = f i := by simp [List.getD_eq_getElem?_getD, hi]
      rw [e3] at hv
      have hj : j < 6 := (List.getElem?_eq_some_iff.1 hv).1
      have hg := hfo i hi j hj
      rw [cl_addr, cl_addr] at hg
      rw [hg]; exact hv
end Go.Proofs.Ytndgladfcogiiaa
