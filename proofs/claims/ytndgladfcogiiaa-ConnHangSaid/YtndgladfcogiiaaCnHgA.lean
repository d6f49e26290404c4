/- ConnHang: how it is walked. -/
import Derived.Test.YtndgladfcogiiaaArg
import Derived.WalkKit
import Derived.ProofKit
import Derived.OpenShut
import Derived.SizedLaws
import Derived.Lib.SmallJoins
import Derived.Test.YtndgladfcogiiaaCnAll
import Derived.Deep.Slices
import Derived.Test.YtndgladfcogiiaaMem
import Derived.Test.YtndgladfcogiiaaEnd
import Derived.Laws.Cover3

/- Tokens, replies, calls, operations that come in by value. -/

/- A token that comes in by value, opened. -/
namespace Go.Proofs.Ytndgladfcogiiaa
open Go.ChangeShapes Go.WideShapes Go.ChangeAt Go.RowKit
set_option maxRecDepth 100000

theorem tok_cells : Try.prog.cellsOf 24 = 3 := by kernel_rfl
theorem u8_cells : Try.prog.cellsOf 5 = 1 := by kernel_rfl
theorem u8_bytes : Try.prog.bytesOf 5 = 1 := by kernel_rfl
theorem tok_open {H : Type} {enc : TypeId × Value → H} {W : World} {b0 : Nat} {v : Value} {d : DataW H} {p : List MemPlace}
    (hv : Value.okWide Try.prog W .any b0 24 v) (h : DataW.Trod enc Try.prog W 0 (fun _ => true) true 24 v d p) :
    ∃ (pm : Int) (A : Option Addr) (n c : Nat) (xs : List Nat) (s : Int), v = .agg #[.int .i64 pm, .slice A n c, .int .i64 s] ∧ Arg W W.heap.size A n c xs ∧
      (c = 0 ∨ ∃ elems spare, d = .agg [.lit (.int .i64 pm), .slice elems spare, .lit (.int .i64 s)] ∧ elems.length + spare.length = c) := by
  obtain ⟨c0, c1, c2, y0, y1, y2, m, rfl, rfl, rfl, hy0, hy1, hy2⟩ := Joins.open_agg3 Try.underlying24 (by kernel_rfl) tok_cells hv h
  obtain ⟨a, e0, rfl, wa⟩ := DataW.trod_int Try.underlying3 hy0
  simp at e0
  subst e0
  obtain ⟨s, e2, rfl, ws⟩ := DataW.trod_int Try.underlying2 hy2
  simp at e2
  subst e2
  rcases open_ints Try.underlying22 Try.underlying5 u8_cells hy1 with ⟨hcs, hx0⟩ | ⟨x, l, c, zs, hcs, _, hl, hm, hz, hx, hcell, hwz⟩
  · simp only [List.cons.injEq, and_true] at hcs
    subst hcs
    exact ⟨a, none, 0, 0, [], s, rfl, Arg.nil _ _, .inl rfl⟩
  · simp only [List.cons.injEq, and_true] at hcs
    subst hcs
    have hzc : zs.length = c := by simpa using hz
    have hd : y1.1 = .slice (lits .u8 (zs.take l)) (lits .u8 (zs.drop l)) := congrArg Prod.fst hx
    refine ⟨a, some x, l, c, (zs.take l).map Int.toNat, s, rfl, ⟨by simp; omega, hl, hm, fun d hd => ?_, (fun h => by cases h), fun hn => ?_⟩, .inr ⟨_, _, by rw [hd], by simp [lits]; omega⟩⟩
    · obtain ⟨z, hz, rfl⟩ := List.mem_map.1 hd
      exact (byte_of_wf (hwz z (List.mem_of_mem_take hz))).2
    · have h0 := hcell 0 (by omega)
      obtain ⟨b, off, spot⟩ := x
      have hspot : spot = none := by simpa [Addr.add] using World.cell?_spot h0
      subst hspot
      refine ⟨b, off, rfl, ?_, fun k hk => ?_⟩
      · exact World.block_lt_of_cell? W _ (by simpa [Addr.add] using h0)
      · have hk' := hcell k (by omega)
        have e1 : ((zs.take l).map Int.toNat).getD k 0 = (zs.getD k 0).toNat := by
          simp [List.getD_eq_getElem?_getD, hk, show k < zs.length by omega]
        have hm : zs.getD k 0 ∈ zs := by
          rw [List.getD_eq_getElem?_getD, List.getElem?_eq_getElem (by omega)]
          exact List.getElem_mem _
        rw [e1, (byte_of_wf (hwz _ hm)).1, ← hk']
        by_cases h0 : k = 0 <;> simp [Addr.add, h0]
theorem tok_sized {H : Type} {ts : List TypeId} {ds : List (DataW H)} (h : (DataW.weightsEach Try.prog ts ds).all (· ≤ reachBytes) = true) {j : Nat} {pm s : Int} {elems spare : List (DataW H)}
    (ht : ts[j]? = some 24) (hd : ds[j]? = some (.agg [.lit (.int .i64 pm), .slice elems spare, .lit (.int .i64 s)])) : elems.length + spare.length ≤ 140737488351232 := by
  have := List.all_eq_true.1 h _ (DataW.weights_mem_each ht hd ((elems.length + spare.length) * 1) (by simp [DataW.weights, DataW.weightsEach, Try.underlying24, Try.underlying22, u8_bytes]))
  have h2 := of_decide_eq_true this
  unfold reachBytes at h2
  omega
end Go.Proofs.Ytndgladfcogiiaa


/- Replies and calls that come in by value, opened. -/
namespace Go.Proofs.Ytndgladfcogiiaa
open Go.ChangeShapes Go.WideShapes Go.ChangeAt Go.RowKit
set_option maxRecDepth 100000
set_option linter.unusedVariables false

theorem rep_cells : Try.prog.cellsOf 82 = 6 := by kernel_rfl
theorem rep_i : Try.prog.cellsOf 2 = 1 := by kernel_rfl
theorem rep_b : Try.prog.cellsOf 4 = 1 := by kernel_rfl
theorem rep_e : Try.prog.cellsOf 28 = 1 := by kernel_rfl
theorem reply_open {H : Type} {enc : TypeId × Value → H} {W : World} {b0 : Nat} {v : Value} {d : DataW H} {p : List MemPlace}
    (hv : Value.okWide Try.prog W .any b0 82 v) (h : DataW.Trod enc Try.prog W 0 (fun _ => true) true 82 v d p) :
    ∃ (E : Int) (G : Bool) (a b q d : Int), v = .agg #[.int .i64 E, .bool G, .int .i64 a, .int .i64 b, .int .i64 q, .int .i64 d] := by
  obtain ⟨cs, rfl, hsz⟩ := okWide_struct Try.underlying82 hv
  obtain ⟨fuel, hf⟩ := h
  obtain ⟨cs⟩ := cs
  have hlen : cs.length = 6 := by have := hsz.trans rep_cells; simpa using this
  obtain ⟨xs, k, hk, hxy, _, hxl, hfi⟩ := DataW.trod_struct Try.underlying82 hf
  match xs, hxl, cs, hlen with
  | [y0, y1, y2, y3, y4, y5], _, [v0, v1, v2, v3, v4, v5], _ =>
    have g0 : DataW.trod enc Try.prog W 0 (fun _ => true) true k 28 [v0] = some y0 := by simpa [rep_e, rep_i, rep_b, Value.cells] using hfi 0 _ rfl
    have g1 : DataW.trod enc Try.prog W 0 (fun _ => true) true k 4 [v1] = some y1 := by simpa [rep_e, rep_i, rep_b, Value.cells] using hfi 1 _ rfl
    have g2 : DataW.trod enc Try.prog W 0 (fun _ => true) true k 2 [v2] = some y2 := by simpa [rep_e, rep_i, rep_b, Value.cells] using hfi 2 _ rfl
    have g3 : DataW.trod enc Try.prog W 0 (fun _ => true) true k 2 [v3] = some y3 := by simpa [rep_e, rep_i, rep_b, Value.cells] using hfi 3 _ rfl
    have g4 : DataW.trod enc Try.prog W 0 (fun _ => true) true k 2 [v4] = some y4 := by simpa [rep_e, rep_i, rep_b, Value.cells] using hfi 4 _ rfl
    have g5 : DataW.trod enc Try.prog W 0 (fun _ => true) true k 2 [v5] = some y5 := by simpa [rep_e, rep_i, rep_b, Value.cells] using hfi 5 _ rfl
    obtain ⟨z0, e0, _, w0⟩ := DataW.trod_int Try.underlying28 g0
    obtain ⟨z1, e1, _⟩ := DataW.trod_bool Try.underlying4 g1
    obtain ⟨z2, e2, _, w2⟩ := DataW.trod_int Try.underlying2 g2
    obtain ⟨z3, e3, _, w3⟩ := DataW.trod_int Try.underlying2 g3
    obtain ⟨z4, e4, _, w4⟩ := DataW.trod_int Try.underlying2 g4
    obtain ⟨z5, e5, _, w5⟩ := DataW.trod_int Try.underlying2 g5
    simp only [List.cons.injEq, and_true] at e0 e1 e2 e3 e4 e5
    exact ⟨z0, z1, z2, z3, z4, z5, by rw [e0, e1, e2, e3, e4, e5]⟩
theorem call_cells : Try.prog.cellsOf 71 = 4 := by kernel_rfl
theorem call_open {H : Type} {enc : TypeId × Value → H} {W : World} {b0 : Nat} {v : Value} {d : DataW H} {p : List MemPlace}
    (hv : Value.okWide Try.prog W .any b0 71 v) (h : DataW.Trod enc Try.prog W 0 (fun _ => true) true 71 v d p) :
    ∃ (o : Nat) (pm : Int) (A : Option Addr) (n c : Nat) (xs : List Nat) (s : Int), v = .agg #[.int .u8 (o : Int), .int .i64 pm, .slice A n c, .int .i64 s] ∧ o < 256 ∧ Arg W W.heap.size A n c xs ∧
      (c = 0 ∨ ∃ elems spare, d = .agg [.lit (.int .u8 (o : Int)), .lit (.int .i64 pm), .slice elems spare, .lit (.int .i64 s)] ∧ elems.length + spare.length = c) := by
  obtain ⟨c0, c1, c2, c3, y0, y1, y2, y3, m, rfl, rfl, rfl, hy0, hy1, hy2, hy3⟩ := Joins.open_agg4 Try.underlying71 (by kernel_rfl) call_cells hv h
  obtain ⟨o0, e0, hd0, wo⟩ := DataW.trod_int Try.underlying5 hy0
  simp at e0
  subst e0
  have hby := bounds_u8 wo
  obtain ⟨o, rfl⟩ : ∃ o : Nat, o0 = (o : Int) := ⟨o0.toNat, by omega⟩
  obtain ⟨a, e1, hd1, wa⟩ := DataW.trod_int Try.underlying3 hy1
  simp at e1
  subst e1
  obtain ⟨s, e3, hd3, ws⟩ := DataW.trod_int Try.underlying2 hy3
  simp at e3
  subst e3
  subst hd0 hd1 hd3
  rcases open_ints Try.underlying22 Try.underlying5 u8_cells hy2 with ⟨hcs, hx0⟩ | ⟨x, l, c, zs, hcs, _, hl, hm, hz, hx, hcell, hwz⟩
  · simp only [List.cons.injEq, and_true] at hcs
    subst hcs
    exact ⟨o, a, none, 0, 0, [], s, rfl, by omega, Arg.nil _ _, .inl rfl⟩
  · simp only [List.cons.injEq, and_true] at hcs
    subst hcs
    have hzc : zs.length = c := by simpa using hz
    have hd : y2.1 = .slice (lits .u8 (zs.take l)) (lits .u8 (zs.drop l)) := congrArg Prod.fst hx
    refine ⟨o, a, some x, l, c, (zs.take l).map Int.toNat, s, rfl, by omega, ⟨by simp; omega, hl, hm, fun d hd => ?_, (fun h => by cases h), fun hn => ?_⟩, .inr ⟨_, _, by rw [hd], by simp [lits]; omega⟩⟩
    · obtain ⟨z, hz, rfl⟩ := List.mem_map.1 hd
      exact (byte_of_wf (hwz z (List.mem_of_mem_take hz))).2
    · have h0 := hcell 0 (by omega)
      obtain ⟨b, off, spot⟩ := x
      have hspot : spot = none := by simpa [Addr.add] using World.cell?_spot h0
      subst hspot
      refine ⟨b, off, rfl, ?_, fun k hk => ?_⟩
      · exact World.block_lt_of_cell? W _ (by simpa [Addr.add] using h0)
      · have hk' := hcell k (by omega)
        have e1 : ((zs.take l).map Int.toNat).getD k 0 = (zs.getD k 0).toNat := by
          simp [List.getD_eq_getElem?_getD, hk, show k < zs.length by omega]
        have hm : zs.getD k 0 ∈ zs := by
          rw [List.getD_eq_getElem?_getD, List.getElem?_eq_getElem (by omega)]
          exact List.getElem_mem _
        rw [e1, (byte_of_wf (hwz _ hm)).1, ← hk']
        by_cases h0 : k = 0 <;> simp [Addr.add, h0]
theorem call_sized {H : Type} {ts : List TypeId} {ds : List (DataW H)} (h : (DataW.weightsEach Try.prog ts ds).all (· ≤ reachBytes) = true) {j : Nat} {o pm s : Int} {elems spare : List (DataW H)}
    (ht : ts[j]? = some 71) (hd : ds[j]? = some (.agg [.lit (.int .u8 o), .lit (.int .i64 pm), .slice elems spare, .lit (.int .i64 s)])) : elems.length + spare.length ≤ 140737488351232 := by
  have := List.all_eq_true.1 h _ (DataW.weights_mem_each ht hd ((elems.length + spare.length) * 1) (by simp [DataW.weights, DataW.weightsEach, Try.underlying71, Try.underlying22, u8_bytes]))
  have h2 := of_decide_eq_true this
  unfold reachBytes at h2
  omega
end Go.Proofs.Ytndgladfcogiiaa


/- An operation of the law's script that comes in by value, opened. -/
namespace Go.Proofs.Ytndgladfcogiiaa
open Go.ChangeShapes Go.WideShapes Go.ChangeAt Go.RowKit
set_option maxRecDepth 100000
set_option linter.unusedVariables false

theorem op22_cells : Try.prog.cellsOf 92 = 8 := by kernel_rfl
theorem op22_8 : Try.prog.cellsOf 5 = 1 := by kernel_rfl
theorem op22_s : Try.prog.cellsOf 22 = 1 := by kernel_rfl
theorem reply_list {H : Type} {enc : TypeId × Value → H} {W : World} {f : Nat} {v0 v1 v2 v3 v4 v5 : Value} {y : DataW H × List MemPlace} (hf : DataW.trod enc Try.prog W 0 (fun _ => true) true f 82 [v0, v1, v2, v3, v4, v5] = some y) :
    ∃ (E : Int) (G : Bool) (a b q d : Int), v0 = .int .i64 E ∧ v1 = .bool G ∧ v2 = .int .i64 a ∧ v3 = .int .i64 b ∧ v4 = .int .i64 q ∧ v5 = .int .i64 d := by
  obtain ⟨xs, k, hk, hxy, _, hxl, hfi⟩ := DataW.trod_struct Try.underlying82 hf
  match xs, hxl with
  | [y0, y1, y2, y3, y4, y5], _ =>
    have g0 : DataW.trod enc Try.prog W 0 (fun _ => true) true k 28 [v0] = some y0 := by simpa [rep_e, rep_i, rep_b, Value.cells] using hfi 0 _ rfl
    have g1 : DataW.trod enc Try.prog W 0 (fun _ => true) true k 4 [v1] = some y1 := by simpa [rep_e, rep_i, rep_b, Value.cells] using hfi 1 _ rfl
    have g2 : DataW.trod enc Try.prog W 0 (fun _ => true) true k 2 [v2] = some y2 := by simpa [rep_e, rep_i, rep_b, Value.cells] using hfi 2 _ rfl
    have g3 : DataW.trod enc Try.prog W 0 (fun _ => true) true k 2 [v3] = some y3 := by simpa [rep_e, rep_i, rep_b, Value.cells] using hfi 3 _ rfl
    have g4 : DataW.trod enc Try.prog W 0 (fun _ => true) true k 2 [v4] = some y4 := by simpa [rep_e, rep_i, rep_b, Value.cells] using hfi 4 _ rfl
    have g5 : DataW.trod enc Try.prog W 0 (fun _ => true) true k 2 [v5] = some y5 := by simpa [rep_e, rep_i, rep_b, Value.cells] using hfi 5 _ rfl
    obtain ⟨z0, e0, _, w0⟩ := DataW.trod_int Try.underlying28 g0
    obtain ⟨z1, e1, _⟩ := DataW.trod_bool Try.underlying4 g1
    obtain ⟨z2, e2, _, w2⟩ := DataW.trod_int Try.underlying2 g2
    obtain ⟨z3, e3, _, w3⟩ := DataW.trod_int Try.underlying2 g3
    obtain ⟨z4, e4, _, w4⟩ := DataW.trod_int Try.underlying2 g4
    obtain ⟨z5, e5, _, w5⟩ := DataW.trod_int Try.underlying2 g5
    simp only [List.cons.injEq, and_true] at e0 e1 e2 e3 e4 e5
    exact ⟨z0, z1, z2, z3, z4, z5, e0, e1, e2, e3, e4, e5⟩
theorem op22_open {H : Type} {enc : TypeId × Value → H} {W : World} {b0 : Nat} {v : Value} {d : DataW H} {p : List MemPlace}
    (hv : Value.okWide Try.prog W .any b0 92 v) (h : DataW.Trod enc Try.prog W 0 (fun _ => true) true 92 v d p) :
    ∃ (o : Nat) (A : Option Addr) (n c : Nat) (xs : List Nat) (r : RpV), v = OpA o A n c r ∧ o < 256 ∧ Arg W W.heap.size A n c xs ∧
      (c = 0 ∨ ∃ elems spare e0 e2, d = .agg [e0, .slice elems spare, e2] ∧ elems.length + spare.length = c) := by
  obtain ⟨cs, rfl, hsz⟩ := okWide_struct Try.underlying92 hv
  obtain ⟨fuel, hf⟩ := h
  obtain ⟨cs⟩ := cs
  have hlen : cs.length = 8 := by have := hsz.trans op22_cells; simpa using this
  obtain ⟨xs, k, hk, hxy, _, hxl, hfi⟩ := DataW.trod_struct Try.underlying92 hf
  match xs, hxl, cs, hlen with
  | [y0, y1, y2], _, [v0, v1, v2, v3, v4, v5, v6, v7], _ =>
    have g0 : DataW.trod enc Try.prog W 0 (fun _ => true) true k 5 [v0] = some y0 := by simpa [op22_8, op22_s, rep_cells, Value.cells] using hfi 0 _ rfl
    have g1 : DataW.trod enc Try.prog W 0 (fun _ => true) true k 22 [v1] = some y1 := by simpa [op22_8, op22_s, rep_cells, Value.cells] using hfi 1 _ rfl
    have g2 : DataW.trod enc Try.prog W 0 (fun _ => true) true k 82 [v2, v3, v4, v5, v6, v7] = some y2 := by simpa [op22_8, op22_s, rep_cells, Value.cells] using hfi 2 _ rfl
    obtain ⟨o0, e0, hd0, wo⟩ := DataW.trod_int Try.underlying5 g0
    simp only [List.cons.injEq, and_true] at e0
    subst e0
    have hby := bounds_u8 wo
    obtain ⟨o, rfl⟩ : ∃ o : Nat, o0 = (o : Int) := ⟨o0.toNat, by omega⟩
    obtain ⟨E, G, a, b, q, dd, rfl, rfl, rfl, rfl, rfl, rfl⟩ := reply_list g2
    have hdd : d = .agg [y0.1, y1.1, y2.1] := by
      have := congrArg Prod.fst hxy
      simpa using this
    rcases open_ints Try.underlying22 Try.underlying5 u8_cells g1 with ⟨hcs, hx0⟩ | ⟨x, l, c, zs, hcs, _, hl, hm, hz, hx, hcell, hwz⟩
    · simp only [List.cons.injEq, and_true] at hcs
      subst hcs
      exact ⟨o, none, 0, 0, [], ⟨E, G, a, b, q, dd⟩, rfl, by omega, Arg.nil _ _, .inl rfl⟩
    · simp only [List.cons.injEq, and_true] at hcs
      subst hcs
      have hzc : zs.length = c := by simpa using hz
      have hd : y1.1 = .slice (lits .u8 (zs.take l)) (lits .u8 (zs.drop l)) := congrArg Prod.fst hx
      refine ⟨o, some x, l, c, (zs.take l).map Int.toNat, ⟨E, G, a, b, q, dd⟩, rfl, by omega, ⟨by simp; omega, hl, hm, fun d hd => ?_, (fun h => by cases h), fun hn => ?_⟩, .inr ⟨_, _, y0.1, y2.1, by rw [hdd, hd], by simp [lits]; omega⟩⟩
      · obtain ⟨z, hz, rfl⟩ := List.mem_map.1 hd
        exact (byte_of_wf (hwz z (List.mem_of_mem_take hz))).2
      · have h0 := hcell 0 (by omega)
        obtain ⟨b, off, spot⟩ := x
        have hspot : spot = none := by simpa [Addr.add] using World.cell?_spot h0
        subst hspot
        refine ⟨b, off, rfl, ?_, fun k hk => ?_⟩
        · exact World.block_lt_of_cell? W _ (by simpa [Addr.add] using h0)
        · have hk' := hcell k (by omega)
          have e1 : ((zs.take l).map Int.toNat).getD k 0 = (zs.getD k 0).toNat := by
            simp [List.getD_eq_getElem?_getD, hk, show k < zs.length by omega]
          have hm : zs.getD k 0 ∈ zs := by
            rw [List.getD_eq_getElem?_getD, List.getElem?_eq_getElem (by omega)]
            exact List.getElem_mem _
          rw [e1, (byte_of_wf (hwz _ hm)).1, ← hk']
          by_cases h0 : k = 0 <;> simp [Addr.add, h0]
theorem op22_sized {H : Type} {ts : List TypeId} {ds : List (DataW H)} (h : (DataW.weightsEach Try.prog ts ds).all (· ≤ reachBytes) = true) {j : Nat} {e0 e2 : DataW H} {elems spare : List (DataW H)}
    (ht : ts[j]? = some 92) (hd : ds[j]? = some (.agg [e0, .slice elems spare, e2])) : elems.length + spare.length ≤ 140737488351232 := by
  have := List.all_eq_true.1 h _ (DataW.weights_mem_each ht hd ((elems.length + spare.length) * 1) (by simp [DataW.weights, DataW.weightsEach, Try.underlying92, Try.underlying22, u8_bytes]))
  have h2 := of_decide_eq_true this
  unfold reachBytes at h2
  omega
end Go.Proofs.Ytndgladfcogiiaa


/- Lists of calls that come in, opened. -/
namespace Go.Proofs.Ytndgladfcogiiaa
open Go.ChangeShapes Go.WideShapes Go.ChangeAt Go.RowKit Go.Deep
set_option maxRecDepth 100000
set_option linter.unusedVariables false

abbrev noCl : ClR := ⟨0, 0, 0, none, 0, []⟩
/-- Calls that are read. -/
structure ClsA (w : World) (B : Nat) (A : Option Addr) (n c : Nat) (L : List ClR) : Prop where
  len : L.length = n
  le : n ≤ c
  cap : c ≤ maxLen
  at_ : 0 < n → ∃ b off, A = some ⟨b, off, none⟩ ∧ b < B ∧ ∀ i j v, i < n → (L.getD i noCl).cells[j]? = some v → w.cell? ⟨b, off + i * 4 + j, none⟩ = some v
  key : ∀ e ∈ L, Arg w B e.A e.ks.length e.c e.ks ∧ e.o < 256 ∧ e.c ≤ 140737488351232
section
variable {w w' : World} {B B' n c : Nat} {A : Option Addr} {L : List ClR}
theorem ClsA.below (h : ClsA w B A n c L) (hb : Below B w w') : ClsA w' B A n c L :=
  ⟨h.len, h.le, h.cap, fun hn => by
    obtain ⟨b, off, e, hB, hc⟩ := h.at_ hn
    exact ⟨b, off, e, hB, fun i j v hi hv => (hb.cell (p := ⟨b, off + i * 4 + j, none⟩) hB).trans (hc i j v hi hv)⟩, fun e he => ⟨(h.key e he).1.below hb, (h.key e he).2⟩⟩
theorem cl_mem {i : Nat} (h : i < L.length) : L.getD i noCl ∈ L := by
  rw [List.getD_eq_getElem?_getD, List.getElem?_eq_getElem h]; exact List.getElem_mem h
end
theorem ca_call : Try.prog.cellsOf 71 = 4 := by kernel_rfl
theorem ca_b8 : Try.prog.bytesOf 5 = 1 := by kernel_rfl
theorem ca_int : Try.prog.cellsOf 3 = 1 := by kernel_rfl
theorem ca_i64 : Try.prog.cellsOf 2 = 1 := by kernel_rfl
theorem cl_addr (b off k : Nat) : (⟨b, off, none⟩ : Addr).add k = ⟨b, off + k, none⟩ := by unfold Addr.add; split <;> simp_all
theorem cl_key {H : Type} {enc : TypeId × Value → H} {W : World} {n : Nat} {cs : List Value} {x : DataW H × List MemPlace} (h : DataW.trod enc Try.prog W 0 (fun _ => true) true n 22 cs = some x) (hw : ∀ m ∈ x.1.weights Try.prog 22, m ≤ reachBytes) :
    ∃ A len cap zs, cs = [.slice A len cap] ∧ Arg W W.heap.size A len cap zs ∧ cap ≤ 140737488351232 := by
  have hin : ∃ A len cap, cs = [.slice A len cap] := by
    rcases open_ints Try.underlying22 Try.underlying5 op22_8 h with ⟨hcs, _⟩ | ⟨a, l, c, zs, hcs, _⟩
    · exact ⟨none, 0, 0, hcs⟩
    · exact ⟨some a, l, c, hcs⟩
  obtain ⟨A, len, cap, rfl⟩ := hin
  obtain ⟨zs, ha, hz⟩ := Arg.of_trod (d := x.1) (p := x.2) Try.underlying22 Try.underlying5 op22_8 ⟨n, h⟩
  refine ⟨A, len, cap, zs, rfl, ha, ?_⟩
  rcases hz with hz | ⟨el, sp, e, hl⟩
  · omega
  · rw [e] at hw
    have := hw ((el.length + sp.length) * Try.prog.bytesOf 5) (by simp [DataW.weights, Try.underlying22])
    rw [ca_b8] at this
    simp only [reachBytes] at this
    omega
theorem cl_one {H : Type} {enc : TypeId × Value → H} {W : World} {n : Nat} {cs : List Value} {x : DataW H × List MemPlace} (hlen : cs.length = 4)
    (h : DataW.trod enc Try.prog W 0 (fun _ => true) true n 71 cs = some x) (hw : ∀ m ∈ x.1.weights Try.prog 71, m ≤ reachBytes) : ∃ o : ClR, (Arg W W.heap.size o.A o.ks.length o.c o.ks ∧ o.o < 256 ∧ o.c ≤ 140737488351232) ∧ cs = o.cells := by
  obtain ⟨ys, k', hk', hyy, _, hyl, hg⟩ := DataW.trod_struct Try.underlying71 h
  match ys, hyl, cs, hlen with
  | [y0, y1, y2, y3], _, [v0, v1, v2, v3], _ =>
    have g0 : DataW.trod enc Try.prog W 0 (fun _ => true) true k' 5 [v0] = some y0 := by simpa [op22_8] using hg 0 _ rfl
    have g1 : DataW.trod enc Try.prog W 0 (fun _ => true) true k' 3 [v1] = some y1 := by simpa [ca_int] using hg 1 _ rfl
    have g2 : DataW.trod enc Try.prog W 0 (fun _ => true) true k' 22 [v2] = some y2 := by simpa [op22_s] using hg 2 _ rfl
    have g3 : DataW.trod enc Try.prog W 0 (fun _ => true) true k' 2 [v3] = some y3 := by simpa [ca_i64] using hg 3 _ rfl
    obtain ⟨z0, e0, _, w0⟩ := DataW.trod_int Try.underlying5 g0
    obtain ⟨z1, e1, _, _⟩ := DataW.trod_int Try.underlying3 g1
    obtain ⟨z3, e3, _, w3⟩ := DataW.trod_int Try.underlying2 g3
    have hy1 : x.1 = .agg [y0.1, y1.1, y2.1, y3.1] := by rw [hyy]; rfl
    rw [hy1] at hw
    obtain ⟨A, len, cap, zs, e2, ha, hcap⟩ := cl_key g2 (fun m hm => hw m (by
      simp only [DataW.weights, Try.underlying71]
      exact DataW.weights_mem_each (j := 2) rfl rfl m hm))
    simp only [List.cons.injEq, and_true] at e0 e1 e2 e3
    have b0 := bounds_u8 w0
    have e6 : ((z0.toNat : Nat) : Int) = z0 := Int.toNat_of_nonneg b0.1
    have hl := ha.len
    subst hl
    refine ⟨⟨z0.toNat, z1, z3, A, cap, zs⟩, ⟨ha, by simp only; omega, hcap⟩, ?_⟩
    rw [e0, e1, e2, e3]
    simp only [ClR.cells]
    rw [e6]
instance : Inhabited ClR := ⟨noCl⟩
theorem weightsAll_memC {H : Type} {P : Program} {e : TypeId} : ∀ {ds : List (DataW H)} {d : DataW H}, d ∈ ds → ∀ m ∈ d.weights P e, m ∈ DataW.weightsAll P e ds
  | [], d, hd, m, hm => by simp at hd
  | a :: r, d, hd, m, hm => by
    simp only [DataW.weightsAll, List.mem_append]
    rcases List.mem_cons.1 hd with rfl | hd
    · exact .inl hm
    · exact .inr (weightsAll_memC hd m hm)
theorem calls_open {H : Type} {enc : TypeId × Value → H} {W : World} {a : Option Addr} {len cap : Nat} {d : DataW H} {p : List MemPlace}
    (h : DataW.Trod enc Try.prog W 0 (fun _ => true) true 98 (.slice a len cap) d p) (hw : ∀ m ∈ d.weights Try.prog 98, m ≤ reachBytes) :
    ∃ l, ClsA W W.heap.size a len cap l ∧ (cap = 0 ∨ ∃ elems spare, d = .slice elems spare ∧ elems.length + spare.length = cap) := by
  obtain ⟨fuel, hf⟩ := h
  rcases open_slice Try.underlying98 hf with ⟨hcs, hx0⟩ | ⟨x, l, c, m, n, D, Pl, hcs, _, hl, hm, hmm, hx, hcell⟩
  · simp [Value.cells] at hcs
    obtain ⟨rfl, rfl, rfl⟩ := hcs
    exact ⟨[], ⟨rfl, Nat.le_refl _, by unfold maxLen; omega, fun h => absurd h (by omega), (fun x hx => by cases hx)⟩, .inl rfl⟩
  · simp [Value.cells] at hcs
    obtain ⟨rfl, rfl, rfl⟩ := hcs
    have hmc : m = cap := by simpa using hmm
    subst hmc
    have hd : d = .slice ((List.range len).map D) ((List.range (m - len)).map fun j => D (len + j)) := congrArg Prod.fst hx
    have hwD : ∀ i, i < len → ∀ q ∈ (D i).weights Try.prog 71, q ≤ reachBytes := by
      intro i hi q hq
      refine hw q ?_
      rw [hd]
      simp only [DataW.weights, Try.underlying98, List.mem_cons, List.mem_append]
      exact .inr (.inl (weightsAll_memC (List.mem_map.2 ⟨i, by simpa using hi, rfl⟩) q hq))
    have each : ∀ i, i < len → ∃ o : ClR, (Arg W W.heap.size o.A o.ks.length o.c o.ks ∧ o.o < 256 ∧ o.c ≤ 140737488351232) ∧ ∀ j, j < 4 → W.cell? ((x.add (i * 4)).add j) = o.cells[j]? := by
      intro i hi
      obtain ⟨cs', h1, h2⟩ := hcell i (by omega)
      rw [ca_call] at h1
      obtain ⟨_, hlen, hc⟩ := World.cells?_some h1
      obtain ⟨o, ho, rfl⟩ := cl_one hlen h2 (hwD i hi)
      exact ⟨o, ho, fun j hj => hc j hj⟩
    obtain ⟨f, hfo⟩ := choose_lt each
    refine ⟨(List.range len).map f, ⟨by simp, hl, hm, fun hn => ?_, fun y hy => ?_⟩, .inr ⟨_, _, hd, by simp; omega⟩⟩
    · have h0 : W.cell? ((x.add (0 * 4)).add 0) = some (.int .u8 ((f 0).o : Nat)) := (hfo 0 (by omega)).2 0 (by omega)
      obtain ⟨b, off, spot⟩ := x
      have hspot : spot = none := by simpa [Addr.add] using World.cell?_spot (w := W) h0
      subst hspot
      refine ⟨b, off, rfl, ?_, fun i j v hi hv => ?_⟩
      · exact World.block_lt_of_cell? W _ (by simpa [Addr.add] using h0)
      · have e3 : ((List.range len).map f).getD i noCl = f i := by simp [List.getD_eq_getElem?_getD, hi]
        rw [e3] at hv
        have hj : j < 4 := (List.getElem?_eq_some_iff.1 hv).1
        have hg := (hfo i hi).2 j hj
        rw [cl_addr, cl_addr] at hg
        rw [hg]; exact hv
    · obtain ⟨i, hi, rfl⟩ := List.mem_map.1 hy
      exact (hfo i (by simpa using hi)).1
end Go.Proofs.Ytndgladfcogiiaa


/- Contracts: Norm, Word of the document's numbers. -/
namespace Go.Proofs.Ytndgladfcogiiaa
open Go.RowKit
set_option maxRecDepth 100000

set_option maxHeartbeats 400000 in
/-- Norm: the same number without noughts at the end; a piece of the slice. -/
theorem norm_any (w : World) (B : Nat) (A : Option Addr) (n c : Nat) (xs : List Nat) (N : Nat) (h : Own w B A n c xs) (hl : Mth.Lo xs N) :
    Calls Try.prog 134 #[.slice A n c] w fun e w' =>
      (∃ k, k ≤ n ∧ e = .returned (.slice A k c) ∧ Own w B A k c (xs.take k) ∧ Mth.Dig (xs.take k) N) ∧ w = w' := by
  have hlen := h.len
  have hle := h.le
  have hcap := h.cap
  unfold maxLen at hcap
  go_enter Try.func134, Try.ntmps134
  go_wp2
  go_loop [3] (fun i => ∃ k : Nat, k ≤ n ∧ i = .int .i64 k ∧ Mth.Lo (xs.take k) N) (fun i => (intOf i).toNat)
  case atStart => exact ⟨n, Nat.le_refl _, rfl, by rw [List.take_of_length_le (by omega)]; exact hl⟩
  case round =>
    obtain ⟨k, hk, rfl, hlo⟩ := hrel
    rcases Nat.eq_zero_or_pos k with hz | hpos
    · have hfin : (∃ j, j ≤ n ∧ Ending.returned (.slice A k c) = .returned (.slice A j c) ∧ Own w B A j c (xs.take j) ∧ Mth.Dig (xs.take j) N) :=
        ⟨k, hk, rfl, h.take hk, Mth.Dig.of_take hlo (by omega) (.inl hz)⟩
      have H := Lib.hid hfin
      clear hfin hlo hl
      subst hz
      go_wp2
      go_ret
      exact ⟨H.out, rfl⟩
    · obtain ⟨g, rfl, _, _, hcell⟩ := h.at_ (k := k - 1) (by omega)
      by_cases h0 : xs.getD (k - 1) 0 = 0
      · have hlo' : Mth.Lo (xs.take (k - 1)) N := by
          refine Mth.Lo.take_zero (n := k - 1) ?_ (by omega) h0
          rw [Nat.sub_add_cancel hpos]; exact hlo
        rw [h0] at hcell
        have H := Lib.hid hlo'
        clear hlo' hlo hl h0
        go_wp2
        go_round
        case rel => exact ⟨k - 1, by omega, by go_num, H.out⟩
        case measure => simp [intOf]; omega
      · have hfin : (∃ j, j ≤ n ∧ Ending.returned (.slice (some ⟨g, 0, none⟩) k c) = .returned (.slice (some ⟨g, 0, none⟩) j c) ∧ Own w B (some ⟨g, 0, none⟩) j c (xs.take j) ∧ Mth.Dig (xs.take j) N) :=
          ⟨k, hk, rfl, h.take hk, Mth.Dig.of_take hlo (by omega) (.inr h0)⟩
        have H := Lib.hid hfin
        generalize xs.getD (k - 1) 0 = d at hcell h0
        have hd : 1 ≤ d := by omega
        clear hfin hlo hl h0
        go_wp2
        go_ret
        exact ⟨H.out, rfl⟩
end Go.Proofs.Ytndgladfcogiiaa


/- Contracts: Word, Fits, Held of the document's numbers. -/
namespace Go.Proofs.Ytndgladfcogiiaa
open Go.RowKit
set_option maxRecDepth 100000

theorem own_pair (w : World) (m : Nat) :
    Own (w.alloc (.cells #[.int .u64 ((m : Int) % 4294967296), .int .u64 ((m : Int) / 4294967296)] 115)) w.heap.size (some ⟨w.heap.size, 0, none⟩) 2 2 [m % 4294967296, m / 4294967296] := by
  have h := World.ownsRow_lit (base := w.heap.size) (e := 115) (size := 1) w #[.int .u64 ((m : Int) % 4294967296), .int .u64 ((m : Int) / 4294967296)] 2 (Nat.le_refl _) (by unfold maxLen; omega) rfl
  unfold Own
  have e : [m % 4294967296, m / 4294967296].map U = [.int .u64 ((m : Int) % 4294967296), .int .u64 ((m : Int) / 4294967296)] := by
    simp [U]
  rw [e]
  exact h

theorem lo_pair (m : Nat) (hm : m < 18446744073709551616) : Mth.Lo [m % 4294967296, m / 4294967296] m := by
  refine ⟨fun d hd => ?_, ?_⟩
  · simp at hd; omega
  · simp [Mth.val]; omega

set_option maxHeartbeats 400000 in
theorem word_any (w : World) (m : Nat) (hm : m ≤ 18446744073709551615) :
    Calls Try.prog 115 #[.int .u64 (m : Int)] w (NumEnd w m 2) := by
  have ho := own_pair w m
  have hl := lo_pair m (by omega)
  have HO := Lib.hid ho
  have HL := Lib.hid hl
  clear ho hl
  go_enter Try.func115, Try.ntmps115
  go_wp2_with fail
  refine (norm_any _ w.heap.size _ 2 2 _ m HO.out HL.out).mono ?_
  rintro e w' ⟨⟨k, hk, rfl, hown, hd⟩, rfl⟩
  have HW : Hid (NumEnd w m 2 (.returned (.slice (some ⟨w.heap.size, 0, none⟩) k 2)) (w.alloc (.cells #[.int .u64 ((m : Int) % 4294967296), .int .u64 ((m : Int) / 4294967296)] 115))) :=
    ⟨_, _, _, _, rfl, ⟨hown.mono (Nat.zero_le _), hd⟩, hk, (Below.refl _ _).alloc (Nat.le_refl _) _⟩
  clear hown hd HO HL
  go_wp2
  go_ret
  exact HW.out

theorem drop_pred (xs : List Nat) (k : Nat) (h0 : 0 < k) (hk : k ≤ xs.length) : Mth.val (xs.drop (k - 1)) = xs.getD (k - 1) 0 + 4294967296 * Mth.val (xs.drop k) := by
  have h : xs.drop (k - 1) = xs.getD (k - 1) 0 :: xs.drop k := by
    rw [List.drop_eq_getElem_cons (by omega), Nat.sub_add_cancel h0]
    simp [List.getD_eq_getElem?_getD, show k - 1 < xs.length by omega]
  rw [h]; rfl

theorem val_drop_small (xs : List Nat) (hx : ∀ d ∈ xs, d < 4294967296) (k : Nat) (h : xs.length ≤ k + 1) : Mth.val (xs.drop k) < 4294967296 := by
  have h1 := Mth.val_lt (l := xs.drop k) (fun d hd => hx d (List.mem_of_mem_drop hd))
  have h2 : 4294967296 ^ (xs.drop k).length ≤ 4294967296 ^ 1 := Nat.pow_le_pow_right (by omega) (by rw [List.length_drop]; omega)
  omega

theorem getD_lt (xs : List Nat) (hx : ∀ d ∈ xs, d < 4294967296) (k : Nat) : xs.getD k 0 < 4294967296 := by
  rcases Nat.lt_or_ge k xs.length with h | h
  · rw [List.getD_eq_getElem?_getD, List.getElem?_eq_getElem h]
    exact hx _ (List.getElem_mem h)
  · rw [List.getD_eq_getElem?_getD, List.getElem?_eq_none h]
    simp

set_option maxHeartbeats 400000 in
theorem fits_small (w : World) (B : Nat) (A : Option Addr) (n c : Nat) (xs : List Nat) (N : Nat) (h : Own w B A n c xs) (hl : Mth.Lo xs N) (hn : n ≤ 2) :
    Calls Try.prog 133 #[.slice A n c] w fun e w' => e = .returned (.tuple #[.int .u64 (N : Int), .bool true]) ∧ w = w' := by
  have hlen := h.len
  go_enter Try.func133, Try.ntmps133
  go_wp2
  go_loop [4, 5] (fun v i => ∃ k : Nat, k ≤ n ∧ i = .int .i64 ((k : Int) - 1) ∧ v = .int .u64 (Mth.val (xs.drop k) : Nat)) (fun _ i => (intOf i + 1).toNat)
  case atStart => exact ⟨n, Nat.le_refl _, rfl, by rw [List.drop_of_length_le (by omega)]; rfl⟩
  case round =>
    obtain ⟨k, hk, rfl, rfl⟩ := hrel
    rcases Nat.eq_zero_or_pos k with hz | hpos
    · have H := Lib.hid hl.2
      clear hl
      subst hz
      go_wp2
      go_ret2
      exact ⟨ret_ib (by have e := H.out; rw [e]) (by simp; omega), rfl⟩
    · obtain ⟨g, rfl, _, _, hcell⟩ := h.at_ (k := k - 1) (by omega)
      have hv := drop_pred xs k hpos (by omega)
      have hs := val_drop_small xs hl.1 k (by omega)
      have hd := getD_lt xs hl.1 (k - 1)
      have HV := Lib.hid hv
      have HL := Lib.hid hl
      clear hv hl
      generalize hdd : xs.getD (k - 1) 0 = d at hcell hd
      have HD := Lib.hid hdd
      clear hdd
      generalize hvv : Mth.val (xs.drop k) = v at hs
      have HVV := Lib.hid hvv
      clear hvv
      go_wp2
      go_round
      case rel => exact ⟨k - 1, by omega, by go_num, by rw [HV.out, HD.out, HVV.out]; go_num⟩
      case measure => simp [intOf]; omega

set_option maxHeartbeats 400000 in
theorem fits_big (w : World) (B : Nat) (A : Option Addr) (n c : Nat) (xs : List Nat) (h : Own w B A n c xs) (hn : 3 ≤ n) :
    Calls Try.prog 133 #[.slice A n c] w fun e w' => (∃ v, e = .returned (.tuple #[.int .u64 v, .bool false])) ∧ w = w' := by
  have hlen := h.len
  have hle := h.le
  have hcap := h.cap
  unfold maxLen at hcap
  go_enter Try.func133, Try.ntmps133
  go_wp2
  go_loop [4, 5] (fun v i => ∃ k : Nat, k ≤ n ∧ i = .int .i64 ((k : Int) - 1) ∧ ∃ x, v = .int .u64 x) (fun _ i => (intOf i + 1).toNat)
  case atStart => exact ⟨n, Nat.le_refl _, rfl, _, rfl⟩
  case round =>
    obtain ⟨k, hk, rfl, x, rfl⟩ := hrel
    rcases Nat.eq_zero_or_pos k with hz | hpos
    · subst hz
      go_wp2
      go_ret2
      exact ⟨⟨_, ret_ib rfl (by simp; omega)⟩, rfl⟩
    · obtain ⟨g, rfl, _, _, hcell⟩ := h.at_ (k := k - 1) (by omega)
      generalize xs.getD (k - 1) 0 = d at hcell
      go_wp2
      go_round
      case rel => exact ⟨k - 1, by omega, by go_num, _, rfl⟩
      case measure => simp [intOf]; omega

/-- The lesser of a number and the greatest tick. -/
def heldV (N : Nat) : Int := if N ≤ 4611686018427387903 then (N : Int) else 4611686018427387903

theorem heldV_le {N : Nat} (h : N ≤ 4611686018427387903) : heldV N = (N : Int) := by unfold heldV; rw [if_pos h]
theorem heldV_gt {N : Nat} (h : 4611686018427387904 ≤ N) : heldV N = 4611686018427387903 := by unfold heldV; rw [if_neg (by omega)]

set_option maxHeartbeats 400000 in
theorem held_any (w : World) (A : Option Addr) (n c : Nat) (xs : List Nat) (N : Nat) (h : Num w A n c xs N) :
    Calls Try.prog 114 #[.slice A n c] w fun e w' => e = .returned (.int .i64 (heldV N)) ∧ w = w' := by
  have hlen := h.own.len
  have hle := h.own.le
  have hcap := h.own.cap
  unfold maxLen at hcap
  rcases Nat.lt_or_ge 2 n with hn | hn
  · have hN : 4611686018427387904 ≤ N := by
      have h1 := h.dig.pos (by intro e; rw [e] at hlen; simp at hlen; omega)
      have h2 : 4294967296 ^ 2 ≤ 4294967296 ^ (xs.length - 1) := Nat.pow_le_pow_right (by omega) (by omega)
      omega
    have HE := Lib.hid (heldV_gt hN)
    have HN := Lib.hid h
    clear hN h
    go_enter Try.func114, Try.ntmps114
    go_wp2_with fail
    refine (fits_big _ 0 _ _ _ _ HN.out.own (by omega)).mono ?_
    rintro e w' ⟨⟨v, rfl⟩, rfl⟩
    go_wp2
    go_ret
    exact ⟨by rw [HE.out]; rfl, rfl⟩
  · have hlt : N < 18446744073709551616 := by
      have h1 := h.dig.1.lt
      have h2 : 4294967296 ^ xs.length ≤ 4294967296 ^ 2 := Nat.pow_le_pow_right (by omega) (by omega)
      omega
    have HN := Lib.hid h
    clear h
    by_cases hx : N ≤ 4611686018427387903
    · have HE := Lib.hid (heldV_le hx)
      go_enter Try.func114, Try.ntmps114
      go_wp2_with fail
      refine (fits_small _ 0 _ _ _ _ N HN.out.own HN.out.dig.1 hn).mono ?_
      rintro e w' ⟨rfl, rfl⟩
      go_wp2
      go_ret
      exact ⟨by rw [HE.out]; rfl, rfl⟩
    · have HE := Lib.hid (heldV_gt (N := N) (by omega))
      have hx' : 4611686018427387903 < N := by omega
      clear hx
      go_enter Try.func114, Try.ntmps114
      go_wp2_with fail
      refine (fits_small _ 0 _ _ _ _ N HN.out.own HN.out.dig.1 hn).mono ?_
      rintro e w' ⟨rfl, rfl⟩
      go_wp2
      go_ret
      exact ⟨by rw [HE.out]; rfl, rfl⟩
end Go.Proofs.Ytndgladfcogiiaa


/- Contract: Compare of the document's numbers. -/
namespace Go.Proofs.Ytndgladfcogiiaa
open Go.RowKit
set_option maxRecDepth 100000

/-- -1, 0 or 1. -/
def cmpV (N M : Nat) : Int := if N < M then -1 else if M < N then 1 else 0
theorem cmpV_lt {N M : Nat} (h : N < M) : cmpV N M = -1 := by unfold cmpV; rw [if_pos h]
theorem cmpV_gt {N M : Nat} (h : M < N) : cmpV N M = 1 := by unfold cmpV; rw [if_neg (by omega), if_pos h]
theorem cmpV_eq {N M : Nat} (h : N = M) : cmpV N M = 0 := by unfold cmpV; rw [if_neg (by omega), if_neg (by omega)]

/-- How a call ends that answers a value and leaves what lay there as it was. -/
theorem tdiv_nat (a b : Nat) : (a : Int).tdiv (b : Int) = ((a / b : Nat) : Int) := rfl

/-- The upper digits alike, a lesser digit below them: a lesser number. -/
theorem lt_of_top {xs ys : List Nat} {k N M : Nat} (hx : Mth.Lo xs N) (hy : Mth.Lo ys M) (hk : 0 < k) (h1 : k ≤ xs.length) (h2 : k ≤ ys.length)
    (he : Mth.val (xs.drop k) = Mth.val (ys.drop k)) (hd : xs.getD (k - 1) 0 < ys.getD (k - 1) 0) : N < M := by
  have ex := drop_pred xs k hk h1
  have ey := drop_pred ys k hk h2
  have sx : Mth.val xs = Mth.val (xs.take (k - 1)) + 4294967296 ^ (k - 1) * Mth.val (xs.drop (k - 1)) := by
    have := Mth.val_append (xs.take (k - 1)) (xs.drop (k - 1))
    rw [List.take_append_drop, List.length_take, Nat.min_eq_left (by omega)] at this
    exact this
  have sy : Mth.val ys = Mth.val (ys.take (k - 1)) + 4294967296 ^ (k - 1) * Mth.val (ys.drop (k - 1)) := by
    have := Mth.val_append (ys.take (k - 1)) (ys.drop (k - 1))
    rw [List.take_append_drop, List.length_take, Nat.min_eq_left (by omega)] at this
    exact this
  have hlt := Mth.val_lt (l := xs.take (k - 1)) (fun d hd => hx.1 d (List.mem_of_mem_take hd))
  rw [List.length_take, Nat.min_eq_left (by omega)] at hlt
  rw [hx.2] at sx
  rw [hy.2] at sy
  have hm : 4294967296 ^ (k - 1) * (Mth.val (xs.drop (k - 1)) + 1) ≤ 4294967296 ^ (k - 1) * Mth.val (ys.drop (k - 1)) := Nat.mul_le_mul_left _ (by omega)
  rw [Nat.mul_add] at hm
  omega

def CompInv (w : World) (xs ys : List Nat) (n : Nat) (iv : Value) (wr : World) : Prop :=
  ∃ k t : Nat, k ≤ n ∧ iv = .int .i64 ((k : Int) - 1) ∧ Mth.val (xs.drop k) = Mth.val (ys.drop k) ∧ wr = w.drewN t

def CmpEnd (w : World) (N M : Nat) (e : Ending) (w' : World) : Prop := e = .returned (.int .i64 (cmpV N M)) ∧ ∃ t, w' = w.drewN t

end Go.Proofs.Ytndgladfcogiiaa


/- Contracts: the calls of package tick, and the document's answers for them that need no long numbers. -/
namespace Go.Proofs.Ytndgladfcogiiaa
open Go.RowKit
set_option maxRecDepth 100000

/-- Is t a tick? -/
def isTick (t : Int) : Bool := decide (0 ≤ t ∧ t ≤ 4611686018427387903)
theorem isTick_iff {t : Int} : isTick t = true ↔ 0 ≤ t ∧ t ≤ 4611686018427387903 := by unfold isTick; simp
theorem isTick_not {t : Int} : isTick t = false ↔ t < 0 ∨ 4611686018427387903 < t := by unfold isTick; simp; omega

/-- The tick nearest to n. -/
def clampV (n : Int) : Int := if n < 0 then 0 else if 4611686018427387903 < n then 4611686018427387903 else n
theorem clampV_bd (n : Int) : 0 ≤ clampV n ∧ clampV n ≤ 4611686018427387903 := by
  unfold clampV; split <;> try split
  all_goals omega
theorem clampV_lo {n : Int} (h : n < 0) : clampV n = 0 := by unfold clampV; rw [if_pos h]
theorem clampV_hi {n : Int} (h : 4611686018427387903 < n) : clampV n = 4611686018427387903 := by unfold clampV; rw [if_neg (by omega), if_pos h]
theorem clampV_in {n : Int} (h : 0 ≤ n) (h' : n ≤ 4611686018427387903) : clampV n = n := by unfold clampV; rw [if_neg (by omega), if_neg (by omega)]

set_option maxHeartbeats 400000 in
theorem rform_anyT (w : World) (a : Int) : Calls Try.prog 95 #[.int .i64 a] w fun e w' => e = .returned (.bool (isTick a)) ∧ w = w' := by
  by_cases h1 : 0 ≤ a
  · have hd : isTick a = decide (a ≤ 4611686018427387903) := by unfold isTick; simp [h1]
    have HD := Lib.hid hd
    clear hd
    go_enter Try.func95, Try.ntmps95
    go_wp2
    go_ret
    exact ⟨by rw [HD.out]; rfl, rfl⟩
  · have hd : isTick a = false := by unfold isTick; simp [h1]
    have HD := Lib.hid hd
    have h2 : a < 0 := by omega
    clear hd h1
    go_enter Try.func95, Try.ntmps95
    go_wp2
    go_ret
    exact ⟨by rw [HD.out]; rfl, rfl⟩

end Go.Proofs.Ytndgladfcogiiaa


/- The law TickClamps, and the contracts of the document's Clamp and of the law's awake. -/
namespace Go.Proofs.Ytndgladfcogiiaa
open Go.RowKit
set_option maxRecDepth 100000

theorem heldV_clamp (m : Nat) : heldV m = clampV (m : Int) := by
  unfold heldV clampV
  split <;> split <;> try split
  all_goals omega

set_option maxHeartbeats 400000 in
theorem rclamp_any (w : World) (a : Int) (h : a ≤ 9223372036854775807) : Calls Try.prog 67 #[.int .i64 a] w fun e w' => e = .returned (.int .i64 (clampV a)) ∧ Below w.heap.size w w' := by
  rcases Int.lt_or_le a 0 with h1 | h1
  · have HD := Lib.hid (clampV_lo h1)
    go_enter Try.func67, Try.ntmps67
    go_wp2
    go_ret
    exact ⟨by rw [HD.out]; rfl, Below.refl _ _⟩
  · obtain ⟨m, rfl⟩ := Int.eq_ofNat_of_zero_le h1
    have HD := Lib.hid (heldV_clamp m)
    go_enter Try.func67, Try.ntmps67
    go_wp2_with fail
    refine (word_any _ m (by omega)).mono ?_
    rintro e w1 ⟨A, n, c, xs, rfl, hnum, _, hb⟩
    go_wp2_with fail
    refine (held_any _ _ _ _ _ m hnum).mono ?_
    rintro e w2 ⟨rfl, rfl⟩
    go_wp2
    go_ret
    exact ⟨by rw [← HD.out]; rfl, hb⟩

end Go.Proofs.Ytndgladfcogiiaa


/- The law ConnHang: its walk. -/
namespace Go.Proofs.Ytndgladfcogiiaa
open Go.RowKit
set_option maxRecDepth 100000
set_option linter.unusedVariables false

abbrev hg22 : ClV := ⟨2, 3, 0, [113]⟩
theorem hg22_ok : rqC hg22.o hg22.p hg22.s hg22.ks.length = 0 := by decide
theorem hg22_len : (rqF hg22).length = 8 := by decide +kernel
/-- What stands ahead of the hangup. -/
structure HgD (rb : Nat) (D : CnD) : Prop where
  rb_ : D.rb = some rb
  ws : D.ws = []
  rc : D.rc = false
  cl : D.cl = false
  fin : D.fin = 0
  ob : D.ob = none
  us : D.us = []
  toks : D.toks = []
theorem HgD.new (rb : Nat) : HgD rb (CnD.new rb) := ⟨rfl, rfl, rfl, rfl, rfl, rfl, rfl, rfl⟩
theorem rqF_max {x : ClV} : (rqF x).length ≤ 4100 := by
  unfold rqF
  split
  · rename_i h; rw [encV_length]; have := rqB_max h; omega
  · simp
theorem hg_feed (w : World) (B cb rb : Nat) (D : CnD) (h : CnM w B cb D) (hB : B ≤ w.heap.size) (hd : HgD rb D) (x : ClV) (hx : rqC x.o x.p x.s x.ks.length = 0) (XA : Option Addr) (n xc : Nat) (hn : (rqF x).length = n) (ha : Arg w w.heap.size XA n xc (rqF x)) (hr : D.rows.length ≤ 1000) :
    Calls Try.prog 61 #[.pointer (some ⟨cb, 0, none⟩), .slice XA n xc] w fun e w' => ∃ D', e = .returned (.int .i64 0) ∧ CnM w' B cb D' ∧ Stp w w' cb D D' ∧ HgD rb D' ∧ D'.rows.map ClR.v = D.rows.map ClR.v ++ [usedV x] := by
  have e1 : fdV D.ws (rqF x) = ([usedV x], 0) := by rw [hd.ws]; exact fd_one hx
  have e2 : Fr.frV (D.ws ++ rqF x) = ([rqB x.o x.p x.s x.ks], [], false) := by rw [hd.ws]; exact fr_one hx
  have hm := rqF_max (x := x)
  refine (ab_feed w B cb D h hB rb hd.rb_ hd.rc hd.cl hd.fin XA n xc (rqF x) ha _ e1 [] (by rw [e2]) (by rw [hd.ws]; simp; omega) (by rw [e2]; simp; omega)).mono ?_
  rintro e w' ⟨D', he, hc, hs, hv, hf, h0, ho, hcl, hus, htk⟩
  obtain ⟨a1, a2, a3⟩ := h0 rfl
  exact ⟨D', he, hc, hs, ⟨a1, a2, a3, hcl.trans hd.cl, hf, ho.trans hd.ob, hus.trans hd.us, htk.trans hd.toks⟩, hv⟩
/-- The loop over the calls. -/
def HgI (w : World) (B cb rb : Nat) (A : Option Addr) (n c : Nat) (L : List ClR) (iv : Value) (wr : World) : Prop :=
  ∃ (i : Nat) (D : CnD), i ≤ n ∧ iv = .int .i64 (i : Int) ∧ CnM wr B cb D ∧ HgD rb D ∧ (∃ xs, D.rows.map ClR.v = hg22 :: xs) ∧ D.rows.length ≤ 1 + min i 20 ∧ Below w.heap.size w wr ∧ ClsA wr w.heap.size A n c L ∧ B ≤ wr.heap.size
theorem hg_hang (w : World) (B cb : Nat) (D : CnD) (h : CnM w B cb D) (ts : List TkV) (ht : D.toks.map TkR.v = ts) (k : Nat) (hk : ts.length = k) (hk2 : k ≤ 1000) (hl : ∀ t ∈ ts, t.ks.length ≤ 1000) : Calls Try.prog 65 #[.pointer (some ⟨cb, 0, none⟩)] w fun e w' =>
    ∃ A c L D', e = .returned (.slice A k c) ∧ TksA w' A k c L ∧ L.map TkR.v = ts ∧ CnM w' B cb D' ∧ Stp w w' cb D D' ∧ D'.rows.length = 0 ∧ D'.cl = true ∧ D'.ob = D.ob ∧ D'.us = D.us ∧ D'.toks = D.toks := by
  have hn : D.toks.length = k := by rw [← hk, ← ht]; simp
  refine (cn_hangup w B cb D h (by omega) (fun t h1 => by have := hl t.v (by rw [← ht]; exact List.mem_map_of_mem h1); simp at this; omega)).mono ?_
  rintro e w' ⟨A, c, L, rfl, ⟨Bt, _, ho⟩, hv, hkk, hc, hs⟩
  have hL : L.length = k := by have := congrArg List.length hv; simp at this; omega
  rw [hL] at ho
  exact ⟨A, c, L, _, by rw [hL], ⟨⟨Bt, ho⟩, fun t ht => (hkk t ht).arg⟩, hv.trans ht, hc, hs, rfl, rfl, rfl, rfl, rfl⟩
theorem hg_led (w : World) (B cb : Nat) (D : CnD) (h : CnM w B cb D) (ts : List TkV) (ht : D.toks.map TkR.v = ts) (k : Nat) (hk : ts.length = k) (hk2 : k ≤ 1000) (hl : ∀ t ∈ ts, t.ks.length ≤ 1000) : Calls Try.prog 56 #[.pointer (some ⟨cb, 0, none⟩)] w fun e w' =>
    ∃ A c L, e = .returned (.slice A k c) ∧ TksA w' A k c L ∧ L.map TkR.v = ts ∧ Below w.heap.size w w' := by
  have hn : D.toks.length = k := by rw [← hk, ← ht]; simp
  refine (cn_ledger w B cb D h (by omega) (fun t h1 => by have := hl t.v (by rw [← ht]; exact List.mem_map_of_mem h1); simp at this; omega)).mono ?_
  rintro e w' ⟨A, c, L, rfl, ho, hv, hkk, hb⟩
  have hL : L.length = k := by have := congrArg List.length hv; simp at this; omega
  rw [hL] at ho
  exact ⟨A, c, L, by rw [hL], ⟨⟨_, ho⟩, fun t ht => (hkk t ht).arg⟩, hv.trans ht, hb⟩
theorem hg_wait (w : World) (B cb : Nat) (D : CnD) (h : CnM w B cb D) (n : Nat) (hn : D.rows.length = n) : Calls Try.prog 57 #[.pointer (some ⟨cb, 0, none⟩)] w fun e w' => e = .returned (.int .i64 (n : Nat)) ∧ w = w' := by
  subst hn; exact cn_waiting w B cb D h
theorem hg_open (w : World) (B cb : Nat) (D : CnD) (h : CnM w B cb D) (b : Bool) (hb : D.cl = b) : Calls Try.prog 58 #[.pointer (some ⟨cb, 0, none⟩)] w fun e w' => e = .returned (.bool (!b)) ∧ w = w' := by
  subst hb; exact cn_open w B cb D h
set_option maxHeartbeats 3200000 in
theorem connHang_walk (A : Option Addr) (n c : Nat) (L : List ClR) (s : Int) (gr : Bool) (w : World) (h : ClsA w w.heap.size A n c L) (hs : s ≤ 9223372036854775807) :
    Calls Try.prog 18 #[.slice A n c, .int .i64 s, .bool gr] w (ValEnd w (.bool true)) := by
  have kcv := fun (w : World) (C : Array Value) (n c : Nat) => Lib.run_convert_bytes_const (P := Try.prog) w 22 5 C n c Try.underlying22 Try.underlying5
  have HA := Lib.hid h
  have hcap := h.cap
  have hle := h.le
  unfold maxLen at hcap
  clear h
  go_enter Try.func18, Try.ntmps18
  go_wp2_with fail
  with_reducible refine (awake22_any _).mono ?_
  rintro e w0 ⟨rfl, hb0⟩
  have HB0 := Lib.hid hb0
  have HA0 := Lib.hid (HA.out.below hb0)
  clear hb0 HA
  go_wp2_with fail
  with_reducible refine (cn_new w0).mono ?_
  rintro e w1 ⟨rfl, hc, hb⟩
  obtain ⟨rb, hrb⟩ : ∃ rb, rb = w0.heap.size := ⟨_, rfl⟩
  obtain ⟨cb, hcb⟩ : ∃ cb, cb = w0.heap.size + 1 := ⟨_, rfl⟩
  rw [← hcb] at hc
  rw [← hcb]
  have hc1 : CnM w1 w0.heap.size cb (CnD.new rb) := by rw [hrb]; exact hc
  have bl := (Below.refl w1.heap.size w1).alloc (Nat.le_refl _) (.cells #[.int .u8 113] 5 (1, 2))
  have HC := Lib.hid (hc1.below bl)
  have HBB := Lib.hid (hb.trans (bl.mono hb.size))
  have HRQ : Hid (Calls Try.prog 59 #[.agg #[.int .u8 2, .int .i64 3, .slice (some ⟨w1.heap.size, 0, none⟩) 1 1, .int .i64 0]] (w1.alloc (.cells #[.int .u8 113] 5 (1, 2))) fun e w' =>
      ∃ XA xc, e = .returned (.slice XA 8 xc) ∧ OwnV w' (w1.heap.size + 1) XA 8 xc ((rqF hg22).map V8) ∧ (∀ d ∈ rqF hg22, d < 256) ∧ Below (w1.heap.size + 1) (w1.alloc (.cells #[.int .u8 113] 5 (1, 2))) w') := Lib.hid (by
    refine (req_any (w1.alloc (.cells #[.int .u8 113] 5 (1, 2))) (w1.heap.size + 1) hg22 (some ⟨w1.heap.size, 0, none⟩) 1 1 (lit1 w1 113 (1, 2) (by omega)) (by simp)).mono ?_
    rintro e w' ⟨XA, xc, h1, h2, h3, _, h5⟩
    rw [hg22_len] at h1 h2
    exact ⟨XA, xc, h1, by simpa using h2, h3, by simpa using h5⟩)
  have HZ0 := Lib.hid HB0.out.size
  clear hc hc1 hb bl hrb hcb
  go_wp2_with fail
  with_reducible refine (HRQ.out).mono ?_
  rintro e w2 ⟨XA, xc, rfl, ho, hby, hb2⟩
  have hb2' : Below (w1.alloc (.cells #[.int .u8 113] 5 (1, 2))).heap.size (w1.alloc (.cells #[.int .u8 113] 5 (1, 2))) w2 := by simpa using hb2
  have hc2 := HC.out.below hb2'
  have hbb2 := HBB.out.trans (hb2'.mono HBB.out.size)
  have HF := Lib.hid (hg_feed w2 w0.heap.size cb rb (CnD.new rb) hc2 hbb2.size (HgD.new rb) hg22 hg22_ok XA 8 xc hg22_len (ho.arg' hby) (by show 0 ≤ _; omega))
  have HC2 := Lib.hid hc2
  have HBB2 := Lib.hid hbb2
  clear ho hby hb2 hb2' hc2 hbb2 HRQ HC HBB
  go_wp2_with fail
  with_reducible refine (HF.out).mono ?_
  rintro e w3 ⟨D3, rfl, h3, s3, hd3, hv3⟩
  have hbb3 := HBB2.out.trans (s3.below HC2.out HBB2.out.size)
  have HST : Hid (HgI w w0.heap.size cb rb A n c L (.int .i64 0) w3) := Lib.hid ⟨0, D3, Nat.zero_le _, rfl, h3, hd3, ⟨[], by rw [hv3]; rfl⟩, by have := congrArg List.length hv3; simp at this; have e : (CnD.new rb).rows.length = 0 := rfl; omega, HB0.out.trans (hbb3.mono HZ0.out), HA0.out.below (hbb3.mono HZ0.out), hbb3.size⟩
  clear h3 s3 hd3 hv3 hbb3 HF HC2 HBB2 HA0 HB0
  go_wp2
  go_loopw [31] (fun iv wr => HgI w w0.heap.size cb rb A n c L iv wr) (fun iv _ => n - (intOf iv).toNat)
  case atStart => exact HST.out
  case round =>
    obtain ⟨i, D, hi, rfl, hc, hd, hxs, hlen, hbw, hcl, hbz⟩ := hrel
    have HC := Lib.hid hc
    have HD := Lib.hid hd
    have HXS := Lib.hid hxs
    have HLEN := Lib.hid hlen
    have HBW := Lib.hid hbw
    have HCL := Lib.hid hcl
    have HBZ := Lib.hid hbz
    clear hc hd hxs hlen hbw hcl hbz HST
    rcases Nat.lt_or_ge i n with h1 | h1
    · obtain ⟨b, off, rfl, hbB, hcells⟩ := HCL.out.at_ (by omega)
      have hil : i < L.length := by rw [HCL.out.len]; exact h1
      obtain ⟨x, hx⟩ : ∃ x, L.getD i noCl = x := ⟨_, rfl⟩
      have hkx := HCL.out.key _ (cl_mem hil)
      rw [hx] at hkx
      obtain ⟨m, hm⟩ : ∃ m, x.ks.length = m := ⟨_, rfl⟩
      have e0 : wr.cell? ⟨b, off + i * 4, none⟩ = some (.int .u8 x.o) := hcells i 0 _ h1 (by rw [hx]; rfl)
      have e1 : wr.cell? ⟨b, off + i * 4 + 1, none⟩ = some (.int .i64 x.p) := hcells i 1 _ h1 (by rw [hx]; rfl)
      have e2 : wr.cell? ⟨b, off + i * 4 + 2, none⟩ = some (.slice x.A m x.c) := hcells i 2 _ h1 (by rw [hx, ← hm]; rfl)
      have e3 : wr.cell? ⟨b, off + i * 4 + 3, none⟩ = some (.int .i64 x.s) := hcells i 3 _ h1 (by rw [hx]; rfl)
      have hkm : Arg wr w.heap.size x.A m x.c x.ks := by rw [← hm]; exact hkx.1
      obtain ⟨fl, hfl⟩ : ∃ fl, (rqF x.v).length = fl := ⟨_, rfl⟩
      have bb := (Below.refl wr.heap.size wr).alloc (Nat.le_refl _) (.cells #[.int .u8 x.o, .int .i64 x.p, .slice x.A m x.c, .int .i64 x.s] 71)
      have HRX : Hid (Calls Try.prog 59 #[.agg #[.int .u8 x.o, .int .i64 x.p, .slice x.A m x.c, .int .i64 x.s]] (wr.alloc (.cells #[.int .u8 x.o, .int .i64 x.p, .slice x.A m x.c, .int .i64 x.s] 71)) fun e w' =>
          ∃ XA xc, e = .returned (.slice XA fl xc) ∧ OwnV w' (wr.heap.size + 1) XA fl xc ((rqF x.v).map V8) ∧ (∀ d ∈ rqF x.v, d < 256) ∧ (rqC x.o x.p x.s x.ks.length = 0 ↔ XA ≠ none) ∧ Below wr.heap.size wr w') := Lib.hid (by
        have := req_any (wr.alloc (.cells #[.int .u8 x.o, .int .i64 x.p, .slice x.A m x.c, .int .i64 x.s] 71)) w.heap.size x.v x.A m x.c (hkm.below (bb.mono HBW.out.size)) (by simp; have := HBW.out.size; omega)
        refine this.mono ?_
        rintro e w' ⟨XA, xc, g1, g2, g3, g4, g5⟩
        rw [hfl] at g1 g2
        exact ⟨XA, xc, g1, by simpa using g2, g3, g4, bb.trans (g5.mono (by simp))⟩)
      have HFL := Lib.hid hfl
      have i0 : (0 : Int) ≤ (i : Int) := by omega
      have i1 : (i : Int) < (n : Int) := by omega
      clear hcells hkx hkm hm hfl bb
      go_wp2_with fail
      with_reducible refine (HRX.out).mono ?_
      rintro e w5 ⟨XA, xc, rfl, ho, hby, hiff, hb5⟩
      have HC5 := Lib.hid (HC.out.below hb5)
      have HBW5 := Lib.hid (HBW.out.trans (hb5.mono HBW.out.size))
      have HCL5 := Lib.hid (HCL.out.below (hb5.mono HBW.out.size))
      have HBZ5 := Lib.hid (Nat.le_trans HBZ.out hb5.size)
      have HOA := Lib.hid (ho.arg' hby)
      have HIF := Lib.hid hiff
      clear ho hby hiff hb5 e0 e1 e2 e3 HRX HC HBW HCL HBZ
      rcases Nat.lt_or_ge i 20 with h20 | h20
      · have d20 : decide ((i : Int) < 20) = true := decide_eq_true (by omega)
        cases XA with
        | none =>
          go_wp2
          go_roundw
          case rel => exact ⟨i + 1, D, by omega, by push_cast; rfl, HC5.out, HD.out, HXS.out, by have := HLEN.out; omega, HBW5.out, HCL5.out, HBZ5.out⟩
          case measure => simp [intOf]; omega
        | some ad =>
          have hok : rqC x.o x.p x.s x.ks.length = 0 := HIF.out.2 (by simp)
          have HFD := Lib.hid (hg_feed w5 w0.heap.size cb rb D HC5.out HBZ5.out HD.out x.v hok (some ad) fl xc HFL.out HOA.out (by have := HLEN.out; omega))
          clear hok
          go_wp2_with fail
          with_reducible refine (HFD.out).mono ?_
          rintro e w6 ⟨D6, rfl, h6, s6, hd6, hv6⟩
          have HREL : Hid (HgI w w0.heap.size cb rb (some ⟨b, off, none⟩) n c L (.int .i64 ((i + 1 : Nat) : Int)) w6) := Lib.hid (by
            have hb6 := s6.below HC5.out HBZ5.out
            refine ⟨i + 1, D6, by omega, rfl, h6, hd6, ?_, ?_, HBW5.out.trans (hb6.mono HZ0.out), HCL5.out.below (hb6.mono HZ0.out), Nat.le_trans HBZ5.out s6.off.size⟩
            · obtain ⟨xs, hxs⟩ := HXS.out
              exact ⟨xs ++ [usedV x.v], by rw [hv6, hxs]; rfl⟩
            · have e := congrArg List.length hv6
              simp only [List.length_map, List.length_append, List.length_cons, List.length_nil] at e
              have := HLEN.out
              omega)
          clear h6 s6 hd6 hv6 HFD
          go_wp2
          go_roundw
          case rel => have := HREL.out; simpa using this
          case measure => simp [intOf]; omega
      · have d20 : decide ((i : Int) < 20) = false := decide_eq_false (by omega)
        go_wp2
        go_roundw
        case rel => exact ⟨i + 1, D, by omega, by push_cast; rfl, HC5.out, HD.out, HXS.out, by have := HLEN.out; omega, HBW5.out, HCL5.out, HBZ5.out⟩
        case measure => simp [intOf]; omega
    · obtain rfl : i = n := by omega
      obtain ⟨xs, hxs⟩ := HXS.out
      have HN : Hid (Calls Try.prog 62 #[.pointer (some ⟨cb, 0, none⟩)] wr fun e w' => ∃ KB kc D' q, e = .returned (.tuple #[.agg #[.int .u8 2, .int .i64 3, .slice KB 1 kc, .int .i64 0], .int .i64 0]) ∧ OwnV w' wr.heap.size KB 1 kc ([113].map V8) ∧ CnM w' w0.heap.size cb D' ∧ Stp wr w' cb D D' ∧ D'.ob = some q ∧ q.2.v = hg22 ∧ D'.rows.map ClR.v = xs ∧ Kept D D' ∧ D'.us = D.us ∧ D'.toks = D.toks) :=
        Lib.hid (ab_next wr w0.heap.size cb D HC.out HBZ.out HD.out.ob HD.out.cl hg22 xs hxs (by simp) 1 rfl)
      clear hxs
      go_wp2_with fail
      with_reducible refine (HN.out).mono ?_
      rintro e w4 ⟨KB, kc, D4, q, rfl, _, h4, s4, ho4, hq4, _, hk4, hu4, ht4⟩
      have hb4 := s4.below HC.out HBZ.out
      have hbA := (Below.refl w4.heap.size w4).alloc (Nat.le_refl _) (.cells #[.int .u8 2, .int .i64 3, .slice KB 1 kc, .int .i64 0] 71)
      have hbb4 := HBW.out.trans (hb4.mono HZ0.out)
      have HB5 := Lib.hid (hbb4.trans (hbA.mono hbb4.size))
      have H5 := Lib.hid (h4.below hbA)
      have HZ5 := Lib.hid (Nat.le_trans (Nat.le_trans HBZ.out s4.off.size) hbA.size)
      have HP4 := Lib.hid (And.intro ho4 (And.intro hq4 (And.intro (hk4.cl.trans HD.out.cl) (And.intro (hu4.trans HD.out.us) (ht4.trans HD.out.toks)))))
      have HHG := Lib.hid (hg_hang _ w0.heap.size cb D4 H5.out [] (by rw [HP4.out.2.2.2.2]; rfl) 0 rfl (by omega) (by simp))
      clear h4 s4 ho4 hq4 hk4 hu4 ht4 hb4 hbA hbb4 HN
      go_wp2_with fail
      with_reducible refine (HHG.out).mono ?_
      rintro e w6 ⟨A6, c6, L6, D6, rfl, _, _, h6, s6, hr6, hcl6, hob6, hus6, htk6⟩
      have HB6 := Lib.hid (HB5.out.trans ((s6.below H5.out HZ5.out).mono HZ0.out))
      have H6 := Lib.hid h6
      have HZ6 := Lib.hid (Nat.le_trans HZ5.out s6.off.size)
      have HP6 := Lib.hid (And.intro hr6 (And.intro hcl6 (And.intro (hob6.trans HP4.out.1) (And.intro (hus6.trans HP4.out.2.2.2.1) (htk6.trans HP4.out.2.2.2.2)))))
      clear h6 s6 hr6 hcl6 hob6 hus6 htk6 HHG H5 HB5 HZ5
      go_wp2_with fail
      with_reducible refine (hg_wait w6 w0.heap.size cb D6 H6.out 0 HP6.out.1).mono ?_
      rintro e wx ⟨rfl, rfl⟩
      go_wp2_with fail
      with_reducible refine (hg_open w6 w0.heap.size cb D6 H6.out true HP6.out.2.1).mono ?_
      rintro e wx ⟨rfl, rfl⟩
      have HNO := Lib.hid (cn_next_out w6 w0.heap.size cb D6 H6.out q HP6.out.2.2.1)
      go_wp2_with fail
      with_reducible refine (HNO.out).mono ?_
      rintro e w7 ⟨rfl, hb7⟩
      have hbA := (Below.refl w7.heap.size w7).alloc (Nat.le_refl _) (.cells #[.int .u8 0, .int .i64 0, .slice none 0 0, .int .i64 0] 71)
      have hbb7 := HB6.out.trans (hb7.mono HB6.out.size)
      have HB8 := Lib.hid (hbb7.trans (hbA.mono hbb7.size))
      have H8 := Lib.hid ((H6.out.below hb7).below hbA)
      have HZ8 := Lib.hid (Nat.le_trans (Nat.le_trans HZ6.out hb7.size) hbA.size)
      clear hb7 hbA hbb7 HNO H6 HB6 HZ6
      go_upto_region 17 with (fail)
      generalize w7.alloc (.cells #[.int .u8 0, .int .i64 0, .slice none 0 0, .int .i64 0] 71) = w8 at HB8 H8 HZ8 ⊢
      go_wp2_with fail
      with_reducible refine (cn_feed_shut w8 w0.heap.size cb D6 H8.out (.slice none 0 0) (.inl HP6.out.2.1)).mono ?_
      rintro e wx ⟨rfl, rfl⟩
      cases gr with
      | false =>
        have bR := (Below.refl w8.heap.size w8).alloc (Nat.le_refl _) (.cells #[.int .i64 9, .bool false, .int .i64 0, .int .i64 0, .int .i64 0, .int .i64 0] 82)
        have HK9 : Hid (BlkL (w8.alloc (.cells #[.int .i64 9, .bool false, .int .i64 0, .int .i64 0, .int .i64 0, .int .i64 0] 82)) w8.heap.size (RpV.cells ⟨9, false, 0, 0, 0, 0⟩)) := Lib.hid (BlkL.new w8 _ _)
        have H9 := Lib.hid (H8.out.below bR)
        have HB9 := Lib.hid (HB8.out.trans (bR.mono HB8.out.size))
        have HZ9 := Lib.hid (Nat.le_trans HZ8.out bR.size)
        have HNM : Hid (w8.heap.size ∉ D6.M cb) := Lib.hid (fun hh => by have := (H8.out.lt _ hh).2; omega)
        clear bR
        go_upto_region 22 with (fail)
        generalize w8.alloc (.cells #[.int .i64 9, .bool false, .int .i64 0, .int .i64 0, .int .i64 0, .int .i64 0] 82) = w9 at HK9 H9 HB9 HZ9 ⊢
        have hrok : RpV.ok ⟨9, false, 0, 0, 0, 0⟩ = true := by decide
        have hafter : ([] : List TkV) = afterV (D6.toks.map TkR.v) hg22 9 0 := by rw [HP6.out.2.2.2.2]; rfl
        have h3 : (9 : Int) ≠ 0 ∨ hg22.o ≠ 3 := .inl (by decide)
        have k9 := HK9.out
        have g0 := k9.cell 0 _ rfl
        have g1 := k9.cell 1 _ rfl
        have g2 := k9.cell 2 _ rfl
        have g3 := k9.cell 3 _ rfl
        have g4 := k9.cell 4 _ rfl
        have g5 := k9.cell 5 _ rfl
        have gl := k9.lt
        have HRP : Hid (Calls Try.prog 63 #[.pointer (some ⟨cb, 0, none⟩), .agg #[.int .i64 9, .bool false, .int .i64 0, .int .i64 0, .int .i64 0, .int .i64 0]] w9 fun e w' => ∃ D', e = .returned (.int .i64 0) ∧ CnM w' w0.heap.size cb D' ∧ Stp w9 w' cb D6 D' ∧ D'.ob = none ∧ D'.us = [] ∧ D'.toks.map TkR.v = ([] : List TkV) ∧ D'.rows = D6.rows ∧ Kept D6 D') :=
          Lib.hid (ab_reply w9 w0.heap.size cb D6 H9.out HZ9.out ⟨9, false, 0, 0, 0, 0⟩ hrok q hg22 HP6.out.2.2.1 HP4.out.2.1 h3 (by rw [HP6.out.2.2.2.2]; simp) [] (by rw [HP6.out.2.1, HP6.out.2.2.2.1]; rfl) ([] : List TkV) hafter (by rw [HP6.out.2.2.2.1]; simp))
        clear k9 hafter h3
        go_wp2_with fail
        with_reducible refine (HRP.out).mono ?_
        rintro e w10 ⟨D10, rfl, h10, s10, ho10, hu10, ht10, hr10, hk10⟩
        have HK10 := Lib.hid (HK9.out.off s10.off HNM.out)
        have HNM10 : Hid (w8.heap.size ∉ D10.M cb) := Lib.hid (fun hh => (s10.m _ hh).elim HNM.out (fun h => by have := HK9.out.lt; omega))
        have HB10 := Lib.hid (HB9.out.trans ((s10.below H9.out HZ9.out).mono HZ0.out))
        have HZ10 := Lib.hid (Nat.le_trans HZ9.out s10.off.size)
        have H10 := Lib.hid h10
        have HP10 := Lib.hid (And.intro ho10 (And.intro ht10 (hk10.cl.trans HP6.out.2.1)))
        have HTA := Lib.hid (ab_take w10 w0.heap.size cb D10 h10 0 (by rw [hu10]; rfl))
        clear g0 g1 g2 g3 g4 g5 gl h10 s10 ho10 hu10 ht10 hr10 hk10 HRP H9 HB9 HZ9
        go_wp2_with fail
        with_reducible refine (HTA.out).mono ?_
        rintro e w11 ⟨A11, c11, D11, rfl, h11, s11, _, hu11, ho11, hr11, ht11, hk11⟩
        have k11 := HK10.out.off s11.off HNM10.out
        have HK11 := Lib.hid k11
        have HNM11 : Hid (w8.heap.size ∉ D11.M cb) := Lib.hid (fun hh => (s11.m _ hh).elim HNM10.out (fun h => by have := HK10.out.lt; omega))
        have HB11 := Lib.hid (HB10.out.trans ((s11.below H10.out HZ10.out).mono HZ0.out))
        have HZ11 := Lib.hid (Nat.le_trans HZ10.out s11.off.size)
        have H11 := Lib.hid h11
        have HP11 := Lib.hid (And.intro (ho11.trans HP10.out.1) (And.intro (by rw [ht11]; exact HP10.out.2.1 : D11.toks.map TkR.v = ([] : List TkV)) (hk11.cl.trans HP10.out.2.2)))
        have HRN : Hid (Calls Try.prog 63 #[.pointer (some ⟨cb, 0, none⟩), .agg #[.int .i64 9, .bool false, .int .i64 0, .int .i64 0, .int .i64 0, .int .i64 0]] w11 fun e w' => e = .returned (.int .i64 7) ∧ Below w11.heap.size w11 w') := Lib.hid (cn_reply_none w11 w0.heap.size cb D11 h11 ⟨9, false, 0, 0, 0, 0⟩ hrok HP11.out.1)
        have g0 := k11.cell 0 _ rfl
        have g1 := k11.cell 1 _ rfl
        have g2 := k11.cell 2 _ rfl
        have g3 := k11.cell 3 _ rfl
        have g4 := k11.cell 4 _ rfl
        have g5 := k11.cell 5 _ rfl
        have gl := k11.lt
        clear k11 h11 s11 hu11 ho11 hr11 ht11 hk11 HTA H10 HB10 HZ10 HK10 HNM10
        go_wp2_with fail
        with_reducible refine (HRN.out).mono ?_
        rintro e w12 ⟨rfl, hb12⟩
        have HB12 := Lib.hid (HB11.out.trans (hb12.mono HB11.out.size))
        have HZ12 := Lib.hid (Nat.le_trans HZ11.out hb12.size)
        have H12 := Lib.hid (H11.out.below hb12)
        have HK12 := Lib.hid (HK11.out.below hb12)
        have HNC := Lib.hid (cn_next_closed w12 w0.heap.size cb D11 H12.out HP11.out.1 HP11.out.2.2)
        clear g0 g1 g2 g3 g4 g5 gl hb12 HRN H11 HB11 HZ11 HK11
        go_wp2_with fail
        with_reducible refine (HNC.out).mono ?_
        rintro e w13 ⟨rfl, hb13⟩
        have hbA := (Below.refl w13.heap.size w13).alloc (Nat.le_refl _) (.cells #[.int .u8 0, .int .i64 0, .slice none 0 0, .int .i64 0] 71)
        have hbb := HB12.out.trans (hb13.mono HB12.out.size)
        have HB13 := Lib.hid (hbb.trans (hbA.mono hbb.size))
        have HZ13 := Lib.hid (Nat.le_trans (Nat.le_trans HZ12.out hb13.size) hbA.size)
        have H13 := Lib.hid ((H12.out.below hb13).below hbA)
        have HK13 := Lib.hid ((HK12.out.below hb13).below hbA)
        have HHG2 := Lib.hid (hg_hang _ w0.heap.size cb D11 H13.out ([] : List TkV) HP11.out.2.1 0 rfl (by omega) (by simp))
        clear hb13 hbA hbb HNC H12 HB12 HZ12 HK12
        go_wp2_with fail
        with_reducible refine (HHG2.out).mono ?_
        rintro e w14 ⟨A14, c14, L14, D14, rfl, htk14, hv14, h14, s14, _, _, _, _, ht14⟩
        have HB14 := Lib.hid (HB13.out.trans ((s14.below H13.out HZ13.out).mono HZ0.out))
        have HK14 := Lib.hid (HK13.out.off s14.off HNM11.out)
        have HTK := Lib.hid (And.intro htk14 hv14)
        have HLD := Lib.hid (hg_led w14 w0.heap.size cb D14 h14 ([] : List TkV) (by rw [ht14]; exact HP11.out.2.1) 0 rfl (by omega) (by simp))
        clear htk14 hv14 h14 s14 ht14 HHG2 H13 HB13 HZ13 HK13
        go_wp2_with fail
        with_reducible refine (HLD.out).mono ?_
        rintro e w15 ⟨A15, c15, L15, rfl, htk15, hv15, hb15⟩
        have HB15 := Lib.hid (HB14.out.trans (hb15.mono HB14.out.size))
        have HK15 := Lib.hid (HK14.out.below hb15)
        have HT15 := Lib.hid (HTK.out.1.below hb15)
        have HSM := Lib.hid (same22_any w15 A14 A15 0 c14 0 c15 L14 L15 HT15.out htk15 (HTK.out.2.trans hv15.symm))
        clear htk15 hv15 hb15 HLD HB14 HK14
        go_wp2_with fail
        with_reducible refine (HSM.out).mono ?_
        rintro e w16 ⟨rfl, t16, rfl⟩
        have HB16 := Lib.hid (below_drewN HB15.out t16)
        go_wp2
        go_ret
        exact ⟨rfl, HB16.out⟩
      | true =>
        have bR := (Below.refl w8.heap.size w8).alloc (Nat.le_refl _) (.cells #[.int .i64 9, .bool false, .int .i64 0, .int .i64 0, .int .i64 0, .int .i64 0] 82)
        have HK8 : Hid (BlkL (w8.alloc (.cells #[.int .i64 9, .bool false, .int .i64 0, .int .i64 0, .int .i64 0, .int .i64 0] 82)) w8.heap.size [.int .i64 9, .bool false, .int .i64 0, .int .i64 0, .int .i64 0, .int .i64 0]) := Lib.hid (BlkL.new w8 _ _)
        have HB8' := Lib.hid (HB8.out.trans (bR.mono HB8.out.size))
        have HCP := Lib.hid (rclamp_any (w8.alloc (.cells #[.int .i64 9, .bool false, .int .i64 0, .int .i64 0, .int .i64 0, .int .i64 0] 82)) s hs)
        have HNM : Hid (w8.heap.size ∉ D6.M cb) := Lib.hid (fun hh => by have := (H8.out.lt _ hh).2; omega)
        have HNR : Hid (w8.heap.size ∉ D6.R) := Lib.hid (fun hh => by have := (H8.out.ltR _ hh).1; omega)
        have HBR := Lib.hid bR
        clear bR
        go_wp2_with fail
        with_reducible refine (HCP.out).mono ?_
        rintro e w8b ⟨rfl, hbc⟩
        have hcv : 0 ≤ clampV s ∧ clampV s ≤ 4611686018427387903 := by unfold clampV; repeat' split <;> omega
        obtain ⟨cv, hcv2⟩ : ∃ cv, clampV s = cv := ⟨_, rfl⟩
        rw [hcv2] at hcv
        rw [hcv2]
        have hk8 := HK8.out.below hbc
        have f0 := hk8.froz 0 (by simp)
        have f1 := hk8.froz 1 (by simp)
        have f2 := hk8.froz 2 (by simp)
        have f3 := hk8.froz 3 (by simp)
        have f4 := hk8.froz 4 (by simp)
        have f5 := hk8.froz 5 (by simp)
        have u0 := hk8.cell 0 _ rfl
        have u1 := hk8.cell 1 _ rfl
        have u2 := hk8.cell 2 _ rfl
        have u3 := hk8.cell 3 _ rfl
        have u4 := hk8.cell 4 _ rfl
        have u5 := hk8.cell 5 _ rfl
        have ul := hk8.lt
        go_upto_region 22 with (fail)
        have hm1 : 1 ≤ (if cv < 1 then (1 : Int) else cv) ∧ (if cv < 1 then (1 : Int) else cv) ≤ 4611686018427387903 := by split <;> omega
        generalize (if cv < 1 then (1 : Int) else cv) = mv at hm1 ⊢
        have fo : Off [w8.heap.size] w8b ((((((w8b.setCell ⟨w8.heap.size, 0, none⟩ (.int .i64 0)).setCell ⟨w8.heap.size, 1, none⟩ (.bool true)).setCell ⟨w8.heap.size, 2, none⟩ (.int .i64 0)).setCell ⟨w8.heap.size, 3, none⟩ (.int .i64 0)).setCell ⟨w8.heap.size, 4, none⟩ (.int .i64 mv)).setCell ⟨w8.heap.size, 5, none⟩ (.int .i64 0)) := ((((((Off.refl _ _).setCell (p := ⟨w8.heap.size, 0, none⟩) (by simp) _).setCell (p := ⟨w8.heap.size, 1, none⟩) (by simp) _).setCell (p := ⟨w8.heap.size, 2, none⟩) (by simp) _).setCell (p := ⟨w8.heap.size, 3, none⟩) (by simp) _).setCell (p := ⟨w8.heap.size, 4, none⟩) (by simp) _).setCell (p := ⟨w8.heap.size, 5, none⟩) (by simp) _
        have hk9 : BlkL ((((((w8b.setCell ⟨w8.heap.size, 0, none⟩ (.int .i64 0)).setCell ⟨w8.heap.size, 1, none⟩ (.bool true)).setCell ⟨w8.heap.size, 2, none⟩ (.int .i64 0)).setCell ⟨w8.heap.size, 3, none⟩ (.int .i64 0)).setCell ⟨w8.heap.size, 4, none⟩ (.int .i64 mv)).setCell ⟨w8.heap.size, 5, none⟩ (.int .i64 0)) w8.heap.size (RpV.cells ⟨0, true, 0, 0, mv, 0⟩) := (((((hk8.set 0 (.int .i64 0) (by simp)).set 1 (.bool true) (by simp)).set 2 (.int .i64 0) (by simp)).set 3 (.int .i64 0) (by simp)).set 4 (.int .i64 mv) (by simp)).set 5 (.int .i64 0) (by simp)
        have HK9 := Lib.hid hk9
        have H9 := Lib.hid (((H8.out.below HBR.out).below hbc).off fo (fun y hy hh => by simp at hh; subst hh; exact HNM.out hy) (fun y hy hh => by simp at hh; subst hh; exact HNR.out hy))
        have hb9 := HB8'.out.trans (hbc.mono HB8'.out.size)
        have HB9 := Lib.hid (hb9.trans (fo.below hb9.size (fun y hy => by simp at hy; subst hy; exact HB8.out.size)))
        have HZ9 := Lib.hid (Nat.le_trans (Nat.le_trans (Nat.le_trans HZ8.out HBR.out.size) hbc.size) fo.size)
        clear fo hk9 hb9 hk8 f0 f1 f2 f3 f4 f5 u0 u1 u2 u3 u4 u5 ul hbc
        generalize ((((((w8b.setCell ⟨w8.heap.size, 0, none⟩ (.int .i64 0)).setCell ⟨w8.heap.size, 1, none⟩ (.bool true)).setCell ⟨w8.heap.size, 2, none⟩ (.int .i64 0)).setCell ⟨w8.heap.size, 3, none⟩ (.int .i64 0)).setCell ⟨w8.heap.size, 4, none⟩ (.int .i64 mv)).setCell ⟨w8.heap.size, 5, none⟩ (.int .i64 0)) = w9 at HK9 H9 HB9 HZ9 ⊢
        have hrok : RpV.ok ⟨0, true, 0, 0, mv, 0⟩ = true := by unfold RpV.ok RpV.eB tkB; simp; omega
        have hafter : ([⟨3, mv, [113]⟩] : List TkV) = afterV (D6.toks.map TkR.v) hg22 0 mv := by rw [HP6.out.2.2.2.2]; rfl
        have h3 : (0 : Int) ≠ 0 ∨ hg22.o ≠ 3 := .inr (by decide)
        have k9 := HK9.out
        have g0 := k9.cell 0 _ rfl
        have g1 := k9.cell 1 _ rfl
        have g2 := k9.cell 2 _ rfl
        have g3 := k9.cell 3 _ rfl
        have g4 := k9.cell 4 _ rfl
        have g5 := k9.cell 5 _ rfl
        have gl := k9.lt
        have HRP : Hid (Calls Try.prog 63 #[.pointer (some ⟨cb, 0, none⟩), .agg #[.int .i64 0, .bool true, .int .i64 0, .int .i64 0, .int .i64 mv, .int .i64 0]] w9 fun e w' => ∃ D', e = .returned (.int .i64 0) ∧ CnM w' w0.heap.size cb D' ∧ Stp w9 w' cb D6 D' ∧ D'.ob = none ∧ D'.us = [] ∧ D'.toks.map TkR.v = ([⟨3, mv, [113]⟩] : List TkV) ∧ D'.rows = D6.rows ∧ Kept D6 D') :=
          Lib.hid (ab_reply w9 w0.heap.size cb D6 H9.out HZ9.out ⟨0, true, 0, 0, mv, 0⟩ hrok q hg22 HP6.out.2.2.1 HP4.out.2.1 h3 (by rw [HP6.out.2.2.2.2]; simp) [] (by rw [HP6.out.2.1, HP6.out.2.2.2.1]; rfl) ([⟨3, mv, [113]⟩] : List TkV) hafter (by rw [HP6.out.2.2.2.1]; simp))
        clear k9 hafter h3
        go_wp2_with fail
        with_reducible refine (HRP.out).mono ?_
        rintro e w10 ⟨D10, rfl, h10, s10, ho10, hu10, ht10, hr10, hk10⟩
        have HK10 := Lib.hid (HK9.out.off s10.off HNM.out)
        have HNM10 : Hid (w8.heap.size ∉ D10.M cb) := Lib.hid (fun hh => (s10.m _ hh).elim HNM.out (fun h => by have := HK9.out.lt; omega))
        have HB10 := Lib.hid (HB9.out.trans ((s10.below H9.out HZ9.out).mono HZ0.out))
        have HZ10 := Lib.hid (Nat.le_trans HZ9.out s10.off.size)
        have H10 := Lib.hid h10
        have HP10 := Lib.hid (And.intro ho10 (And.intro ht10 (hk10.cl.trans HP6.out.2.1)))
        have HTA := Lib.hid (ab_take w10 w0.heap.size cb D10 h10 0 (by rw [hu10]; rfl))
        clear g0 g1 g2 g3 g4 g5 gl h10 s10 ho10 hu10 ht10 hr10 hk10 HRP H9 HB9 HZ9
        go_wp2_with fail
        with_reducible refine (HTA.out).mono ?_
        rintro e w11 ⟨A11, c11, D11, rfl, h11, s11, _, hu11, ho11, hr11, ht11, hk11⟩
        have k11 := HK10.out.off s11.off HNM10.out
        have HK11 := Lib.hid k11
        have HNM11 : Hid (w8.heap.size ∉ D11.M cb) := Lib.hid (fun hh => (s11.m _ hh).elim HNM10.out (fun h => by have := HK10.out.lt; omega))
        have HB11 := Lib.hid (HB10.out.trans ((s11.below H10.out HZ10.out).mono HZ0.out))
        have HZ11 := Lib.hid (Nat.le_trans HZ10.out s11.off.size)
        have H11 := Lib.hid h11
        have HP11 := Lib.hid (And.intro (ho11.trans HP10.out.1) (And.intro (by rw [ht11]; exact HP10.out.2.1 : D11.toks.map TkR.v = ([⟨3, mv, [113]⟩] : List TkV)) (hk11.cl.trans HP10.out.2.2)))
        have HRN : Hid (Calls Try.prog 63 #[.pointer (some ⟨cb, 0, none⟩), .agg #[.int .i64 0, .bool true, .int .i64 0, .int .i64 0, .int .i64 mv, .int .i64 0]] w11 fun e w' => e = .returned (.int .i64 7) ∧ Below w11.heap.size w11 w') := Lib.hid (cn_reply_none w11 w0.heap.size cb D11 h11 ⟨0, true, 0, 0, mv, 0⟩ hrok HP11.out.1)
        have g0 := k11.cell 0 _ rfl
        have g1 := k11.cell 1 _ rfl
        have g2 := k11.cell 2 _ rfl
        have g3 := k11.cell 3 _ rfl
        have g4 := k11.cell 4 _ rfl
        have g5 := k11.cell 5 _ rfl
        have gl := k11.lt
        clear k11 h11 s11 hu11 ho11 hr11 ht11 hk11 HTA H10 HB10 HZ10 HK10 HNM10
        go_wp2_with fail
        with_reducible refine (HRN.out).mono ?_
        rintro e w12 ⟨rfl, hb12⟩
        have HB12 := Lib.hid (HB11.out.trans (hb12.mono HB11.out.size))
        have HZ12 := Lib.hid (Nat.le_trans HZ11.out hb12.size)
        have H12 := Lib.hid (H11.out.below hb12)
        have HK12 := Lib.hid (HK11.out.below hb12)
        have HNC := Lib.hid (cn_next_closed w12 w0.heap.size cb D11 H12.out HP11.out.1 HP11.out.2.2)
        clear g0 g1 g2 g3 g4 g5 gl hb12 HRN H11 HB11 HZ11 HK11
        go_wp2_with fail
        with_reducible refine (HNC.out).mono ?_
        rintro e w13 ⟨rfl, hb13⟩
        have hbA := (Below.refl w13.heap.size w13).alloc (Nat.le_refl _) (.cells #[.int .u8 0, .int .i64 0, .slice none 0 0, .int .i64 0] 71)
        have hbb := HB12.out.trans (hb13.mono HB12.out.size)
        have HB13 := Lib.hid (hbb.trans (hbA.mono hbb.size))
        have HZ13 := Lib.hid (Nat.le_trans (Nat.le_trans HZ12.out hb13.size) hbA.size)
        have H13 := Lib.hid ((H12.out.below hb13).below hbA)
        have HK13 := Lib.hid ((HK12.out.below hb13).below hbA)
        have HHG2 := Lib.hid (hg_hang _ w0.heap.size cb D11 H13.out ([⟨3, mv, [113]⟩] : List TkV) HP11.out.2.1 1 rfl (by omega) (by simp))
        clear hb13 hbA hbb HNC H12 HB12 HZ12 HK12
        go_wp2_with fail
        with_reducible refine (HHG2.out).mono ?_
        rintro e w14 ⟨A14, c14, L14, D14, rfl, htk14, hv14, h14, s14, _, _, _, _, ht14⟩
        have HB14 := Lib.hid (HB13.out.trans ((s14.below H13.out HZ13.out).mono HZ0.out))
        have HK14 := Lib.hid (HK13.out.off s14.off HNM11.out)
        have HTK := Lib.hid (And.intro htk14 hv14)
        have HLD := Lib.hid (hg_led w14 w0.heap.size cb D14 h14 ([⟨3, mv, [113]⟩] : List TkV) (by rw [ht14]; exact HP11.out.2.1) 1 rfl (by omega) (by simp))
        clear htk14 hv14 h14 s14 ht14 HHG2 H13 HB13 HZ13 HK13
        go_wp2_with fail
        with_reducible refine (HLD.out).mono ?_
        rintro e w15 ⟨A15, c15, L15, rfl, htk15, hv15, hb15⟩
        have HB15 := Lib.hid (HB14.out.trans (hb15.mono HB14.out.size))
        have HK15 := Lib.hid (HK14.out.below hb15)
        have HT15 := Lib.hid (HTK.out.1.below hb15)
        have HSM := Lib.hid (same22_any w15 A14 A15 1 c14 1 c15 L14 L15 HT15.out htk15 (HTK.out.2.trans hv15.symm))
        clear htk15 hv15 hb15 HLD HB14 HK14
        go_wp2_with fail
        with_reducible refine (HSM.out).mono ?_
        rintro e w16 ⟨rfl, t16, rfl⟩
        have HB16 := Lib.hid (below_drewN HB15.out t16)
        have HK16 := Lib.hid (HK15.out.drewN t16)
        have HT16 := Lib.hid (HT15.out.drewN t16)
        go_upto_region 28 with (fail)
        generalize w15.drewN t16 = w16 at HB16 HK16 HT16 ⊢
        have ba := (Below.refl w16.heap.size w16).alloc (Nat.le_refl _) (.cells #[.int .u8 113] 5 (1, 2))
        have bb := (Below.refl (w16.alloc (.cells #[.int .u8 113] 5 (1, 2))).heap.size (w16.alloc (.cells #[.int .u8 113] 5 (1, 2)))).alloc (Nat.le_refl _) (.cells #[.int .i64 3, .slice (some ⟨w16.heap.size, 0, none⟩) 1 1, .int .i64 mv] 24)
        have HBF := Lib.hid ((HB16.out.trans (ba.mono HB16.out.size)).trans (bb.mono (HB16.out.trans (ba.mono HB16.out.size)).size))
        have tk2 : TksA ((w16.alloc (.cells #[.int .u8 113] 5 (1, 2))).alloc (.cells #[.int .i64 3, .slice (some ⟨w16.heap.size, 0, none⟩) 1 1, .int .i64 mv] 24)) (some ⟨w16.heap.size + 1, 0, none⟩) 1 1 [⟨3, mv, some ⟨w16.heap.size, 0, none⟩, 1, [113]⟩] := by
          refine ⟨⟨w16.heap.size + 1, ?_⟩, fun t ht => ?_⟩
          · have := OwnS.litT (w16.alloc (.cells #[.int .u8 113] 5 (1, 2))) ⟨3, mv, some ⟨w16.heap.size, 0, none⟩, 1, [113]⟩ 24
            rw [show (w16.alloc (.cells #[.int .u8 113] 5 (1, 2))).heap.size = w16.heap.size + 1 by simp] at this
            exact this
          · simp at ht
            subst ht
            have l2 : Arg (w16.alloc (.cells #[.int .u8 113] 5 (1, 2))) (w16.alloc (.cells #[.int .u8 113] 5 (1, 2))).heap.size (some ⟨w16.heap.size, 0, none⟩) 1 1 [113] := (lit1 w16 113 (1, 2) (by omega)).more (by simp)
            exact (l2.below bb).more bb.size
        have HSN := Lib.hid (same22_any ((w16.alloc (.cells #[.int .u8 113] 5 (1, 2))).alloc (.cells #[.int .i64 3, .slice (some ⟨w16.heap.size, 0, none⟩) 1 1, .int .i64 mv] 24)) A14 (some ⟨w16.heap.size + 1, 0, none⟩) 1 c14 1 1 L14 [⟨3, mv, some ⟨w16.heap.size, 0, none⟩, 1, [113]⟩] ((HT16.out.below ba).below bb) tk2 (by rw [HTK.out.2]; rfl))
        have kk := HK16.out.below ba
        have v4 := kk.cell 4 _ rfl
        have vl := kk.lt
        clear ba bb tk2 kk HSM HT15 HT16 HB15 HK15
        go_wp2_with fail
        with_reducible refine (HSN.out).mono ?_
        rintro e w17 ⟨rfl, t, rfl⟩
        go_wp2
        go_ret
        exact ⟨rfl, below_drewN HBF.out t⟩
end Go.Proofs.Ytndgladfcogiiaa
