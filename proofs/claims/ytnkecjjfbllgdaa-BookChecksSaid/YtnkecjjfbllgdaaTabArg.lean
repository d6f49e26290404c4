/- A table and a call that come in, opened. -/
import Derived.Test.YtnkecjjfbllgdaaBkF
import Derived.WalkKit
import Derived.ProofKit
import Derived.OpenShut
import Derived.SizedLaws
import Derived.Deep.SlicePairs
namespace Go.Proofs.Ytnkecjjfbllgdaa
open Go.ChangeShapes Go.WideShapes Go.ChangeAt Go.RowKit Go.Deep
set_option maxRecDepth 100000
set_option linter.unusedVariables false

theorem pol_cells : Try.prog.cellsOf 52 = 4 := by kernel_rfl
theorem pol_bytes : Try.prog.bytesOf 52 = 32 := by kernel_rfl
theorem lim_cells16 : Try.prog.cellsOf 50 = 2 := by kernel_rfl
theorem call_cells : Try.prog.cellsOf 25 = 4 := by kernel_rfl
theorem a_u8 : Try.prog.cellsOf 5 = 1 := by kernel_rfl
theorem a_int : Try.prog.cellsOf 3 = 1 := by kernel_rfl
theorem a_i64 : Try.prog.cellsOf 2 = 1 := by kernel_rfl
theorem a_sl : Try.prog.cellsOf 23 = 1 := by kernel_rfl
theorem pol_addr (b off k : Nat) : (⟨b, off, none⟩ : Addr).add k = ⟨b, off + k, none⟩ := by unfold Addr.add; split <;> simp_all
theorem pol_one {H : Type} {enc : TypeId × Value → H} {W : World} {n : Nat} {cs : List Value} {x : DataW H × List MemPlace} (hlen : cs.length = 4)
    (h : DataW.trod enc Try.prog W 0 (fun _ => true) true n 52 cs = some x) : ∃ o : PolM, True ∧ cs = o.cells := by
  obtain ⟨xs, k, hk, hxy, _, hxl, hf⟩ := DataW.trod_struct Try.underlying52 h
  match xs, hxl, cs, hlen with
  | [y0, y1, y2], _, [v0, v1, v2, v3], _ =>
    have g0 : DataW.trod enc Try.prog W 0 (fun _ => true) true k 5 [v0] = some y0 := by simpa [a_u8] using hf 0 _ rfl
    have g1 : DataW.trod enc Try.prog W 0 (fun _ => true) true k 50 [v1, v2] = some y1 := by simpa [lim_cells16] using hf 1 _ rfl
    have g2 : DataW.trod enc Try.prog W 0 (fun _ => true) true k 3 [v3] = some y2 := by simpa [a_int] using hf 2 _ rfl
    obtain ⟨z0, e0, _, w0⟩ := DataW.trod_int Try.underlying5 g0
    obtain ⟨z2, e2, _, w2⟩ := DataW.trod_int Try.underlying3 g2
    obtain ⟨xs', k', hk', hxy', _, hxl', hf'⟩ := DataW.trod_struct Try.underlying50 g1
    match xs', hxl' with
    | [u0, u1], _ =>
      have h0 : DataW.trod enc Try.prog W 0 (fun _ => true) true k' 2 [v1] = some u0 := by simpa [a_i64] using hf' 0 _ rfl
      have h1 : DataW.trod enc Try.prog W 0 (fun _ => true) true k' 2 [v2] = some u1 := by simpa [a_i64] using hf' 1 _ rfl
      obtain ⟨q0, p0, _, _⟩ := DataW.trod_int Try.underlying2 h0
      obtain ⟨q1, p1, _, _⟩ := DataW.trod_int Try.underlying2 h1
      simp only [List.cons.injEq, and_true] at e0 e2 p0 p1
      have b0 := bounds_u8 w0
      have e3 : ((z0.toNat : Nat) : Int) = z0 := Int.toNat_of_nonneg b0.1
      exact ⟨⟨z0.toNat, q0, q1, z2⟩, trivial, by rw [e0, e2, p0, p1]; simp only [PolM.cells]; rw [e3]⟩
instance : Inhabited PolM := ⟨noPol⟩
theorem pols_open {H : Type} {enc : TypeId × Value → H} {W : World} {a : Option Addr} {len cap : Nat} {d : DataW H} {p : List MemPlace}
    (h : DataW.Trod enc Try.prog W 0 (fun _ => true) true 22 (.slice a len cap) d p) :
    ∃ l, ArgC W W.heap.size 4 a len cap (FP l) ∧ True ∧ (cap = 0 ∨ ∃ elems spare, d = .slice elems spare ∧ elems.length + spare.length = cap) := by
  obtain ⟨fuel, hf⟩ := h
  rcases open_slice Try.underlying22 hf with ⟨hcs, hx0⟩ | ⟨x, l, c, m, n, D, Pl, hcs, _, hl, hm, hmm, hx, hcell⟩
  · simp [Value.cells] at hcs
    obtain ⟨rfl, rfl, rfl⟩ := hcs
    exact ⟨[], ⟨rfl, Nat.le_refl _, by unfold maxLen; omega, fun _ => ⟨rfl, rfl⟩, fun h => absurd h (by omega)⟩, trivial, .inl rfl⟩
  · simp [Value.cells] at hcs
    obtain ⟨rfl, rfl, rfl⟩ := hcs
    have hmc : m = cap := by simpa using hmm
    subst hmc
    have hd : d = .slice ((List.range len).map D) ((List.range (m - len)).map fun j => D (len + j)) := congrArg Prod.fst hx
    have each : ∀ i, i < m → ∃ o : PolM, True ∧ ∀ j, j < 4 → W.cell? ((x.add (i * 4)).add j) = o.cells[j]? := by
      intro i hi
      obtain ⟨cs', h1, h2⟩ := hcell i hi
      rw [pol_cells] at h1
      obtain ⟨_, hlen, hc⟩ := World.cells?_some h1
      obtain ⟨o, ho, rfl⟩ := pol_one hlen h2
      exact ⟨o, ho, fun j hj => hc j hj⟩
    obtain ⟨f, hfo⟩ := choose_lt each
    refine ⟨(List.range len).map f, ⟨by rw [FP_len]; simp, hl, hm, (fun h => by cases h), fun hn => ?_⟩, trivial, .inr ⟨_, _, hd, by simp; omega⟩⟩
    · have h0 : W.cell? ((x.add (0 * 4)).add 0) = some (.int .u8 ((f 0).kind : Nat)) := (hfo 0 (by omega)).2 0 (by omega)
      obtain ⟨b, off, spot⟩ := x
      have hspot : spot = none := by simpa [Addr.add] using World.cell?_spot (w := W) h0
      subst hspot
      refine ⟨b, off, rfl, ?_, fun j hj => ?_⟩
      · exact World.block_lt_of_cell? W _ (by simpa [Addr.add] using h0)
      · have hi : j / 4 < len := by omega
        have hg := (hfo (j / 4) (by omega)).2 (j % 4) (Nat.mod_lt _ (by omega))
        rw [pol_addr, pol_addr] at hg
        have e1 : off + j / 4 * 4 + j % 4 = off + j := by omega
        rw [e1] at hg
        have h2 := FP_at ((List.range len).map f) (j / 4) (j % 4) (by simpa using hi) (Nat.mod_lt _ (by omega))
        have e2 : j / 4 * 4 + j % 4 = j := by omega
        have e3 : ((List.range len).map f).getD (j / 4) noPol = f (j / 4) := by simp [List.getD_eq_getElem?_getD, hi]
        rw [e2, e3] at h2
        rw [h2, hg]

theorem acall_open {H : Type} {enc : TypeId × Value → H} {W : World} {r : Reach} {b0 : Nat} {v : Value} {d : DataW H} {p : List MemPlace} (hv : Value.okWide Try.prog W r b0 25 v)
    (h : DataW.Trod enc Try.prog W 0 (fun _ => true) true 25 v d p) :
    ∃ (op : Nat) (q : Int) (A : Option Addr) (n c : Nat) (N : Int), v = .agg #[.int .u8 (op : Nat), .int .i64 q, .slice A n c, .int .i64 N] := by
  obtain ⟨cs, rfl, hsz⟩ := okWide_struct Try.underlying25 hv
  obtain ⟨l⟩ := cs
  obtain ⟨fuel, hf⟩ := h
  have hl : l.length = 4 := hsz.trans call_cells
  have hf' : DataW.trod enc Try.prog W 0 (fun _ => true) true fuel 25 l = some (d, p) := by simpa [Value.cells] using hf
  obtain ⟨xs, k, hk, hxy, _, hxl, hg⟩ := DataW.trod_struct Try.underlying25 hf'
  match xs, hxl, l, hl with
  | [y0, y1, y2, y3], _, [v0, v1, v2, v3], _ =>
    have g0 : DataW.trod enc Try.prog W 0 (fun _ => true) true k 5 [v0] = some y0 := by simpa [a_u8] using hg 0 _ rfl
    have g1 : DataW.trod enc Try.prog W 0 (fun _ => true) true k 3 [v1] = some y1 := by simpa [a_int] using hg 1 _ rfl
    have g2 : DataW.trod enc Try.prog W 0 (fun _ => true) true k 23 [v2] = some y2 := by simpa [a_sl] using hg 2 _ rfl
    have g3 : DataW.trod enc Try.prog W 0 (fun _ => true) true k 2 [v3] = some y3 := by simpa [a_i64] using hg 3 _ rfl
    obtain ⟨z0, e0, _, w0⟩ := DataW.trod_int Try.underlying5 g0
    obtain ⟨z1, e1, _, _⟩ := DataW.trod_int Try.underlying3 g1
    obtain ⟨z3, e3, _, _⟩ := DataW.trod_int Try.underlying2 g3
    have hin : ∃ A n c, v2 = .slice A n c := by
      rcases open_ints Try.underlying23 Try.underlying5 a_u8 g2 with ⟨hcs, _⟩ | ⟨a, l, c, zs, hcs, _⟩
      · exact ⟨none, 0, 0, by simpa using hcs⟩
      · exact ⟨some a, l, c, by simpa using hcs⟩
    obtain ⟨A, n, c, rfl⟩ := hin
    simp only [List.cons.injEq, and_true] at e0 e1 e3
    have b0 := bounds_u8 w0
    have e4 : ((z0.toNat : Nat) : Int) = z0 := Int.toNat_of_nonneg b0.1
    exact ⟨z0.toNat, z1, A, n, c, z3, by rw [e0, e1, e3, e4]⟩
end Go.Proofs.Ytnkecjjfbllgdaa
