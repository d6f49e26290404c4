/- Calls of a Mach as cells: a list of them that comes in, opened. -/
import Derived.Test.YtddadlomkodgcaaRow
import Derived.WalkKit
import Derived.ProofKit
import Derived.OpenShut
import Derived.SizedLaws
import Derived.Deep.SlicePairs
namespace Go.Proofs.Ytddadlomkodgcaa
open Go.ChangeShapes Go.WideShapes Go.ChangeAt Go.RowKit Go.Deep
set_option maxRecDepth 100000
set_option linter.unusedVariables false

structure OpV where
  kind : Int
  who : Int
  word : Int
  old : Int
  new : Int
  n : Int
abbrev noOp : OpV := ⟨0, 0, 0, 0, 0, 0⟩
def OpV.cells (o : OpV) : List Value := [.int .u8 o.kind, .int .i64 o.who, .int .i64 o.word, .int .u64 o.old, .int .u64 o.new, .int .i64 o.n]
structure OpV.ok (o : OpV) : Prop where
  k0 : 0 ≤ o.kind
  k1 : o.kind ≤ 255
  who0 : -9223372036854775808 ≤ o.who
  who1 : o.who ≤ 9223372036854775807
  word0 : -9223372036854775808 ≤ o.word
  word1 : o.word ≤ 9223372036854775807
  old0 : 0 ≤ o.old
  old1 : o.old ≤ 18446744073709551615
  new0 : 0 ≤ o.new
  new1 : o.new ≤ 18446744073709551615
  n0 : -9223372036854775808 ≤ o.n
  n1 : o.n ≤ 9223372036854775807
def FO (l : List OpV) : List Value := l.flatMap OpV.cells
theorem FO_len (l : List OpV) : (FO l).length = l.length * 6 := by
  induction l with
  | nil => rfl
  | cons a l ih => simp [FO, OpV.cells] at *; omega
theorem FO_at (l : List OpV) (i j : Nat) (h : i < l.length) (hj : j < 6) : (FO l)[i * 6 + j]? = (l.getD i noOp).cells[j]? := by
  induction l generalizing i with
  | nil => simp at h
  | cons a l ih =>
    cases i with
    | zero =>
      rw [Nat.zero_mul, Nat.zero_add]
      show (a.cells ++ FO l)[j]? = a.cells[j]?
      rw [List.getElem?_append_left (by simp [OpV.cells]; omega)]
    | succ i =>
      have := ih i (by simpa using h)
      show (a.cells ++ FO l)[(i + 1) * 6 + j]? = _
      rw [List.getElem?_append_right (by simp [OpV.cells]; omega)]
      have e : (i + 1) * 6 + j - a.cells.length = i * 6 + j := by simp [OpV.cells]; omega
      rw [e, this]; rfl
def okOps (l : List OpV) : Prop := ∀ x ∈ l, x.ok
theorem okOps_at {l : List OpV} (h : okOps l) (i : Nat) : (l.getD i noOp).ok := by
  rcases Nat.lt_or_ge i l.length with hi | hi
  · exact h _ (by rw [List.getD_eq_getElem?_getD, List.getElem?_eq_getElem hi]; exact List.getElem_mem hi)
  · rw [List.getD_eq_getElem?_getD, List.getElem?_eq_none hi]
    constructor <;> simp
theorem op_at {w : World} {B n c : Nat} {A : Option Addr} {l : List OpV} (h : ArgC w B 6 A n c (FO l)) {i : Nat} (hi : i < n) :
    ∃ b off, A = some ⟨b, off, none⟩ ∧ b < B ∧ ∀ j, j < 6 → w.cell? ⟨b, off + i * 6 + j, none⟩ = (l.getD i noOp).cells[j]? := by
  obtain ⟨b, off, e, hb, hc⟩ := h.at_ (by omega)
  have hl := h.len
  rw [FO_len] at hl
  exact ⟨b, off, e, hb, fun j hj => by rw [Nat.add_assoc]; exact (hc (i * 6 + j) (by omega)).trans (FO_at l i j (by omega) hj)⟩

theorem op_cells : Try.prog.cellsOf 33 = 6 := by kernel_rfl
theorem op_bytes : Try.prog.bytesOf 33 = 48 := by kernel_rfl
theorem op_u8 : Try.prog.cellsOf 5 = 1 := by kernel_rfl
theorem op_int : Try.prog.cellsOf 3 = 1 := by kernel_rfl
theorem op_u64 : Try.prog.cellsOf 31 = 1 := by kernel_rfl
theorem op_i64 : Try.prog.cellsOf 2 = 1 := by kernel_rfl
theorem op_addr (b off k : Nat) : (⟨b, off, none⟩ : Addr).add k = ⟨b, off + k, none⟩ := by unfold Addr.add; split <;> simp_all
theorem op_one {H : Type} {enc : TypeId × Value → H} {W : World} {n : Nat} {cs : List Value} {x : DataW H × List MemPlace} (hlen : cs.length = 6)
    (h : DataW.trod enc Try.prog W 0 (fun _ => true) true n 33 cs = some x) : ∃ o : OpV, o.ok ∧ cs = o.cells := by
  obtain ⟨xs, k, hk, hxy, _, hxl, hf⟩ := DataW.trod_struct Try.underlying33 h
  match xs, hxl, cs, hlen with
  | [y0, y1, y2, y3, y4, y5], _, [v0, v1, v2, v3, v4, v5], _ =>
    have g0 : DataW.trod enc Try.prog W 0 (fun _ => true) true k 5 [v0] = some y0 := by simpa [op_u8] using hf 0 _ rfl
    have g1 : DataW.trod enc Try.prog W 0 (fun _ => true) true k 3 [v1] = some y1 := by simpa [op_int] using hf 1 _ rfl
    have g2 : DataW.trod enc Try.prog W 0 (fun _ => true) true k 3 [v2] = some y2 := by simpa [op_int] using hf 2 _ rfl
    have g3 : DataW.trod enc Try.prog W 0 (fun _ => true) true k 31 [v3] = some y3 := by simpa [op_u64] using hf 3 _ rfl
    have g4 : DataW.trod enc Try.prog W 0 (fun _ => true) true k 31 [v4] = some y4 := by simpa [op_u64] using hf 4 _ rfl
    have g5 : DataW.trod enc Try.prog W 0 (fun _ => true) true k 2 [v5] = some y5 := by simpa [op_i64] using hf 5 _ rfl
    obtain ⟨z0, e0, _, w0⟩ := DataW.trod_int Try.underlying5 g0
    obtain ⟨z1, e1, _, w1⟩ := DataW.trod_int Try.underlying3 g1
    obtain ⟨z2, e2, _, w2⟩ := DataW.trod_int Try.underlying3 g2
    obtain ⟨z3, e3, _, w3⟩ := DataW.trod_int Try.underlying31 g3
    obtain ⟨z4, e4, _, w4⟩ := DataW.trod_int Try.underlying31 g4
    obtain ⟨z5, e5, _, w5⟩ := DataW.trod_int Try.underlying2 g5
    simp only [List.cons.injEq, and_true] at e0 e1 e2 e3 e4 e5
    have b0 := bounds_u8 w0
    have b1 := bounds_i64 w1
    have b2 := bounds_i64 w2
    have b3 := bounds_u64 w3
    have b4 := bounds_u64 w4
    have b5 := bounds_i64 w5
    exact ⟨⟨z0, z1, z2, z3, z4, z5⟩, ⟨b0.1, b0.2, b1.1, b1.2, b2.1, b2.2, b3.1, b3.2, b4.1, b4.2, b5.1, b5.2⟩, by rw [e0, e1, e2, e3, e4, e5]; rfl⟩
instance : Inhabited OpV := ⟨noOp⟩
theorem ops_open {H : Type} {enc : TypeId × Value → H} {W : World} {a : Option Addr} {len cap : Nat} {d : DataW H} {p : List MemPlace}
    (h : DataW.Trod enc Try.prog W 0 (fun _ => true) true 22 (.slice a len cap) d p) :
    ∃ l, ArgC W W.heap.size 6 a len cap (FO l) ∧ okOps l ∧ (cap = 0 ∨ ∃ elems spare, d = .slice elems spare ∧ elems.length + spare.length = cap) := by
  obtain ⟨fuel, hf⟩ := h
  rcases open_slice Try.underlying22 hf with ⟨hcs, hx0⟩ | ⟨x, l, c, m, n, D, Pl, hcs, _, hl, hm, hmm, hx, hcell⟩
  · simp [Value.cells] at hcs
    obtain ⟨rfl, rfl, rfl⟩ := hcs
    exact ⟨[], ⟨rfl, Nat.le_refl _, by unfold maxLen; omega, fun _ => ⟨rfl, rfl⟩, fun h => absurd h (by omega)⟩, (fun x hx => by cases hx), .inl rfl⟩
  · simp [Value.cells] at hcs
    obtain ⟨rfl, rfl, rfl⟩ := hcs
    have hmc : m = cap := by simpa using hmm
    subst hmc
    have hd : d = .slice ((List.range len).map D) ((List.range (m - len)).map fun j => D (len + j)) := congrArg Prod.fst hx
    have each : ∀ i, i < m → ∃ o : OpV, o.ok ∧ ∀ j, j < 6 → W.cell? ((x.add (i * 6)).add j) = o.cells[j]? := by
      intro i hi
      obtain ⟨cs', h1, h2⟩ := hcell i hi
      rw [op_cells] at h1
      obtain ⟨_, hlen, hc⟩ := World.cells?_some h1
      obtain ⟨o, ho, rfl⟩ := op_one hlen h2
      exact ⟨o, ho, fun j hj => hc j hj⟩
    obtain ⟨f, hfo⟩ := choose_lt each
    refine ⟨(List.range len).map f, ⟨by rw [FO_len]; simp, hl, hm, (fun h => by cases h), fun hn => ?_⟩, fun y hy => ?_, .inr ⟨_, _, hd, by simp; omega⟩⟩
    · have h0 : W.cell? ((x.add (0 * 6)).add 0) = some (.int .u8 (f 0).kind) := (hfo 0 (by omega)).2 0 (by omega)
      obtain ⟨b, off, spot⟩ := x
      have hspot : spot = none := by simpa [Addr.add] using World.cell?_spot (w := W) h0
      subst hspot
      refine ⟨b, off, rfl, ?_, fun j hj => ?_⟩
      · exact World.block_lt_of_cell? W _ (by simpa [Addr.add] using h0)
      · have hi : j / 6 < len := by omega
        have hg := (hfo (j / 6) (by omega)).2 (j % 6) (Nat.mod_lt _ (by omega))
        rw [op_addr, op_addr] at hg
        have e1 : off + j / 6 * 6 + j % 6 = off + j := by omega
        rw [e1] at hg
        have h2 := FO_at ((List.range len).map f) (j / 6) (j % 6) (by simpa using hi) (Nat.mod_lt _ (by omega))
        have e2 : j / 6 * 6 + j % 6 = j := by omega
        have e3 : ((List.range len).map f).getD (j / 6) noOp = f (j / 6) := by simp [List.getD_eq_getElem?_getD, hi]
        rw [e2, e3] at h2
        rw [h2, hg]
    · obtain ⟨i, hi, rfl⟩ := List.mem_map.1 hy
      exact (hfo i (by have : i < len := by simpa using hi
                       omega)).1
end Go.Proofs.Ytddadlomkodgcaa
