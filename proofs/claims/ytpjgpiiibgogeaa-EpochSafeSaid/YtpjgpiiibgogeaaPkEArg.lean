/- A script of calls of an Epochs as cells: a list of them that comes in, opened. -/
import Derived.Test.YtpjgpiiibgogeaaRow
import Derived.WalkKit
import Derived.ProofKit
import Derived.OpenShut
import Derived.SizedLaws
import Derived.Deep.SlicePairs
namespace Go.Proofs.Ytpjgpiiibgogeaa
open Go.ChangeShapes Go.WideShapes Go.ChangeAt Go.RowKit Go.Deep
set_option maxRecDepth 100000
set_option linter.unusedVariables false

structure EpkV where
  who : Int
  op : Nat
  thing : Int
abbrev noEpk : EpkV := ⟨0, 0, 0⟩
def EpkV.cells (o : EpkV) : List Value := [.int .i64 o.who, .int .u8 (o.op : Int), .int .i64 o.thing]
structure EpkV.ok (o : EpkV) : Prop where
  who0 : -9223372036854775808 ≤ o.who
  who1 : o.who ≤ 9223372036854775807
  op1 : o.op ≤ 255
  t0 : -9223372036854775808 ≤ o.thing
  t1 : o.thing ≤ 9223372036854775807
def FE (l : List EpkV) : List Value := l.flatMap EpkV.cells
theorem FE_len (l : List EpkV) : (FE l).length = l.length * 3 := by
  induction l with
  | nil => rfl
  | cons a l ih => simp [FE, EpkV.cells] at *; omega
theorem FE_at (l : List EpkV) (i j : Nat) (h : i < l.length) (hj : j < 3) : (FE l)[i * 3 + j]? = (l.getD i noEpk).cells[j]? := by
  induction l generalizing i with
  | nil => simp at h
  | cons a l ih =>
    cases i with
    | zero =>
      rw [Nat.zero_mul, Nat.zero_add]
      show (a.cells ++ FE l)[j]? = a.cells[j]?
      rw [List.getElem?_append_left (by simp [EpkV.cells]; omega)]
    | succ i =>
      have := ih i (by simpa using h)
      show (a.cells ++ FE l)[(i + 1) * 3 + j]? = _
      rw [List.getElem?_append_right (by simp [EpkV.cells]; omega)]
      have e : (i + 1) * 3 + j - a.cells.length = i * 3 + j := by simp [EpkV.cells]; omega
      rw [e, this]; rfl
def okEpks (l : List EpkV) : Prop := ∀ x ∈ l, x.ok
theorem okEpks_at {l : List EpkV} (h : okEpks l) (i : Nat) : (l.getD i noEpk).ok := by
  rcases Nat.lt_or_ge i l.length with hi | hi
  · exact h _ (by rw [List.getD_eq_getElem?_getD, List.getElem?_eq_getElem hi]; exact List.getElem_mem hi)
  · rw [List.getD_eq_getElem?_getD, List.getElem?_eq_none hi]
    constructor <;> simp
theorem epk_at {w : World} {B n c : Nat} {A : Option Addr} {l : List EpkV} (h : ArgC w B 3 A n c (FE l)) {i : Nat} (hi : i < n) :
    ∃ b off, A = some ⟨b, off, none⟩ ∧ b < B ∧ ∀ j, j < 3 → w.cell? ⟨b, off + i * 3 + j, none⟩ = (l.getD i noEpk).cells[j]? := by
  obtain ⟨b, off, e, hb, hc⟩ := h.at_ (by omega)
  have hl := h.len
  rw [FE_len] at hl
  exact ⟨b, off, e, hb, fun j hj => by rw [Nat.add_assoc]; exact (hc (i * 3 + j) (by omega)).trans (FE_at l i j (by omega) hj)⟩

theorem epk_cells : Try.prog.cellsOf 32 = 3 := by kernel_rfl
theorem epk_bytes : Try.prog.bytesOf 32 = 24 := by kernel_rfl
theorem epk_u8 : Try.prog.cellsOf 5 = 1 := by kernel_rfl
theorem epk_int : Try.prog.cellsOf 3 = 1 := by kernel_rfl
theorem epk_addr (b off k : Nat) : (⟨b, off, none⟩ : Addr).add k = ⟨b, off + k, none⟩ := by unfold Addr.add; split <;> simp_all
theorem epk_one {H : Type} {enc : TypeId × Value → H} {W : World} {n : Nat} {cs : List Value} {x : DataW H × List MemPlace} (hlen : cs.length = 3)
    (h : DataW.trod enc Try.prog W 0 (fun _ => true) true n 32 cs = some x) : ∃ o : EpkV, o.ok ∧ cs = o.cells := by
  obtain ⟨xs, k, hk, hxy, _, hxl, hf⟩ := DataW.trod_struct Try.underlying32 h
  match xs, hxl, cs, hlen with
  | [y0, y1, y2], _, [v0, v1, v2], _ =>
    have g0 : DataW.trod enc Try.prog W 0 (fun _ => true) true k 3 [v0] = some y0 := by simpa [epk_int] using hf 0 _ rfl
    have g1 : DataW.trod enc Try.prog W 0 (fun _ => true) true k 5 [v1] = some y1 := by simpa [epk_u8] using hf 1 _ rfl
    have g2 : DataW.trod enc Try.prog W 0 (fun _ => true) true k 3 [v2] = some y2 := by simpa [epk_int] using hf 2 _ rfl
    obtain ⟨z0, e0, _, w0⟩ := DataW.trod_int Try.underlying3 g0
    obtain ⟨z1, e1, _, w1⟩ := DataW.trod_int Try.underlying5 g1
    obtain ⟨z2, e2, _, w2⟩ := DataW.trod_int Try.underlying3 g2
    simp only [List.cons.injEq, and_true] at e0 e1 e2
    have b0 := bounds_i64 w0
    have b1 := bounds_u8 w1
    have b2 := bounds_i64 w2
    have e3 : ((z1.toNat : Nat) : Int) = z1 := Int.toNat_of_nonneg b1.1
    exact ⟨⟨z0, z1.toNat, z2⟩, ⟨b0.1, b0.2, by simp only; omega, b2.1, b2.2⟩, by rw [e0, e1, e2]; simp only [EpkV.cells]; rw [e3]⟩
instance : Inhabited EpkV := ⟨noEpk⟩
theorem epks_open {H : Type} {enc : TypeId × Value → H} {W : World} {a : Option Addr} {len cap : Nat} {d : DataW H} {p : List MemPlace}
    (h : DataW.Trod enc Try.prog W 0 (fun _ => true) true 22 (.slice a len cap) d p) :
    ∃ l, ArgC W W.heap.size 3 a len cap (FE l) ∧ okEpks l ∧ (cap = 0 ∨ ∃ elems spare, d = .slice elems spare ∧ elems.length + spare.length = cap) := by
  obtain ⟨fuel, hf⟩ := h
  rcases open_slice Try.underlying22 hf with ⟨hcs, hx0⟩ | ⟨x, l, c, m, n, D, Pl, hcs, _, hl, hm, hmm, hx, hcell⟩
  · simp [Value.cells] at hcs
    obtain ⟨rfl, rfl, rfl⟩ := hcs
    exact ⟨[], ⟨rfl, Nat.le_refl _, by unfold maxLen; omega, fun _ => ⟨rfl, rfl⟩, fun h => absurd h (by omega)⟩, (fun x hx => by cases hx), .inl rfl⟩
  · simp [Value.cells] at hcs
    obtain ⟨rfl, rfl, rfl⟩ := hcs
    have hmc : m = cap := by simpa using hmm
    subst hmc
    have hd : d = .slice ((List.range len).map D) ((List.range (m - len)).map fun j => D (len + j)) := congrArg Prod.fst hx
    have each : ∀ i, i < m → ∃ o : EpkV, o.ok ∧ ∀ j, j < 3 → W.cell? ((x.add (i * 3)).add j) = o.cells[j]? := by
      intro i hi
      obtain ⟨cs', h1, h2⟩ := hcell i hi
      rw [epk_cells] at h1
      obtain ⟨_, hlen, hc⟩ := World.cells?_some h1
      obtain ⟨o, ho, rfl⟩ := epk_one hlen h2
      exact ⟨o, ho, fun j hj => hc j hj⟩
    obtain ⟨f, hfo⟩ := choose_lt each
    refine ⟨(List.range len).map f, ⟨by rw [FE_len]; simp, hl, hm, (fun h => by cases h), fun hn => ?_⟩, fun y hy => ?_, .inr ⟨_, _, hd, by simp; omega⟩⟩
    · have h0 : W.cell? ((x.add (0 * 3)).add 0) = some (.int .i64 (f 0).who) := (hfo 0 (by omega)).2 0 (by omega)
      obtain ⟨b, off, spot⟩ := x
      have hspot : spot = none := by simpa [Addr.add] using World.cell?_spot (w := W) h0
      subst hspot
      refine ⟨b, off, rfl, ?_, fun j hj => ?_⟩
      · exact World.block_lt_of_cell? W _ (by simpa [Addr.add] using h0)
      · have hi : j / 3 < len := by omega
        have hg := (hfo (j / 3) (by omega)).2 (j % 3) (Nat.mod_lt _ (by omega))
        rw [epk_addr, epk_addr] at hg
        have e1 : off + j / 3 * 3 + j % 3 = off + j := by omega
        rw [e1] at hg
        have h2 := FE_at ((List.range len).map f) (j / 3) (j % 3) (by simpa using hi) (Nat.mod_lt _ (by omega))
        have e2 : j / 3 * 3 + j % 3 = j := by omega
        have e3 : ((List.range len).map f).getD (j / 3) noEpk = f (j / 3) := by simp [List.getD_eq_getElem?_getD, hi]
        rw [e2, e3] at h2
        rw [h2, hg]
    · obtain ⟨i, hi, rfl⟩ := List.mem_map.1 hy
      exact (hfo i (by have : i < len := by simpa using hi
                       omega)).1
end Go.Proofs.Ytpjgpiiibgogeaa
