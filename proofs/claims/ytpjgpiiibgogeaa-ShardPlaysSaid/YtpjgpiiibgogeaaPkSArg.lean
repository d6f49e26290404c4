/- A shard's script that comes in, opened. -/
import Derived.Test.YtpjgpiiibgogeaaPkS
import Derived.WalkKit
import Derived.ProofKit
import Derived.OpenShut
import Derived.SizedLaws
import Derived.Deep.SlicePairs
namespace Go.Proofs.Ytpjgpiiibgogeaa
open Go.ChangeShapes Go.WideShapes Go.ChangeAt Go.RowKit Go.Deep
set_option maxRecDepth 100000
set_option linter.unusedVariables false

theorem spk_cells : Try.prog.cellsOf 72 = 4 := by kernel_rfl
theorem spk_bytes : Try.prog.bytesOf 72 = 48 := by kernel_rfl
theorem spk_u8 : Try.prog.cellsOf 5 = 1 := by kernel_rfl
theorem spk_b8 : Try.prog.bytesOf 5 = 1 := by kernel_rfl
theorem spk_int : Try.prog.cellsOf 3 = 1 := by kernel_rfl
theorem spk_i64 : Try.prog.cellsOf 2 = 1 := by kernel_rfl
theorem spk_sl : Try.prog.cellsOf 70 = 1 := by kernel_rfl
theorem spk_addr (b off k : Nat) : (⟨b, off, none⟩ : Addr).add k = ⟨b, off + k, none⟩ := by unfold Addr.add; split <;> simp_all
/-- A slice of bytes that came in, by its cells; what it weighs. -/
theorem key_open {H : Type} {enc : TypeId × Value → H} {W : World} {n : Nat} {cs : List Value} {x : DataW H × List MemPlace} (h : DataW.trod enc Try.prog W 0 (fun _ => true) true n 70 cs = some x) (hw : ∀ m ∈ x.1.weights Try.prog 70, m ≤ reachBytes) :
    ∃ A len cap zs, cs = [.slice A len cap] ∧ Arg W W.heap.size A len cap zs ∧ cap ≤ 140737488351232 := by
  have hin : ∃ A len cap, cs = [.slice A len cap] := by
    rcases open_ints Try.underlying70 Try.underlying5 spk_u8 h with ⟨hcs, _⟩ | ⟨a, l, c, zs, hcs, _⟩
    · exact ⟨none, 0, 0, hcs⟩
    · exact ⟨some a, l, c, hcs⟩
  obtain ⟨A, len, cap, rfl⟩ := hin
  obtain ⟨zs, ha, hz⟩ := Arg.of_trod (d := x.1) (p := x.2) Try.underlying70 Try.underlying5 spk_u8 ⟨n, h⟩
  refine ⟨A, len, cap, zs, rfl, ha, ?_⟩
  rcases hz with hz | ⟨el, sp, e, hl⟩
  · omega
  · rw [e] at hw
    have := hw ((el.length + sp.length) * Try.prog.bytesOf 5) (by simp [DataW.weights, Try.underlying70])
    rw [spk_b8] at this
    simp only [reachBytes] at this
    omega
theorem spk_one {H : Type} {enc : TypeId × Value → H} {W : World} {n : Nat} {cs : List Value} {x : DataW H × List MemPlace} (hlen : cs.length = 4)
    (h : DataW.trod enc Try.prog W 0 (fun _ => true) true n 72 cs = some x) (hw : ∀ m ∈ x.1.weights Try.prog 72, m ≤ reachBytes) : ∃ o : PkV, (Arg W W.heap.size o.A o.n o.c o.zs ∧ o.ok) ∧ cs = o.cells := by
  obtain ⟨xs, k, hk, hxy, _, hxl, hf⟩ := DataW.trod_struct Try.underlying72 h
  match xs, hxl, cs, hlen with
  | [y0, y1, y2, y3], _, [v0, v1, v2, v3], _ =>
    have g0 : DataW.trod enc Try.prog W 0 (fun _ => true) true k 3 [v0] = some y0 := by simpa [spk_int] using hf 0 _ rfl
    have g1 : DataW.trod enc Try.prog W 0 (fun _ => true) true k 5 [v1] = some y1 := by simpa [spk_u8] using hf 1 _ rfl
    have g2 : DataW.trod enc Try.prog W 0 (fun _ => true) true k 70 [v2] = some y2 := by simpa [spk_sl] using hf 2 _ rfl
    have g3 : DataW.trod enc Try.prog W 0 (fun _ => true) true k 2 [v3] = some y3 := by simpa [spk_i64] using hf 3 _ rfl
    obtain ⟨z0, e0, _, w0⟩ := DataW.trod_int Try.underlying3 g0
    obtain ⟨z1, e1, _, w1⟩ := DataW.trod_int Try.underlying5 g1
    obtain ⟨z3, e3, _, w3⟩ := DataW.trod_int Try.underlying2 g3
    have hx1 : x.1 = .agg [y0.1, y1.1, y2.1, y3.1] := by rw [hxy]; rfl
    rw [hx1] at hw
    obtain ⟨A, len, cap, zs, e2, ha, hcap⟩ := key_open g2 (fun m hm => hw m (by
      simp only [DataW.weights, Try.underlying72]
      exact DataW.weights_mem_each (j := 2) rfl rfl m hm))
    simp only [List.cons.injEq, and_true] at e0 e1 e2 e3
    have b0 := bounds_i64 w0
    have b1 := bounds_u8 w1
    have b3 := bounds_i64 w3
    refine ⟨⟨z0, z1.toNat, A, len, cap, zs, z3⟩, ⟨ha, ⟨b0.1, b0.2, by simp only; omega, b3.1, b3.2, hcap⟩⟩, ?_⟩
    have : ((z1.toNat : Nat) : Int) = z1 := Int.toNat_of_nonneg b1.1
    rw [e0, e1, e2, e3]
    simp [PkV.cells, this]
instance : Inhabited PkV := ⟨noPk⟩
theorem weightsAll_mem {H : Type} {P : Program} {e : TypeId} : ∀ {ds : List (DataW H)} {d : DataW H}, d ∈ ds → ∀ m ∈ d.weights P e, m ∈ DataW.weightsAll P e ds
  | [], d, hd, m, hm => by simp at hd
  | a :: r, d, hd, m, hm => by
    simp only [DataW.weightsAll, List.mem_append]
    rcases List.mem_cons.1 hd with rfl | hd
    · exact .inl hm
    · exact .inr (weightsAll_mem hd m hm)
theorem script_open {H : Type} {enc : TypeId × Value → H} {W : World} {a : Option Addr} {len cap : Nat} {d : DataW H} {p : List MemPlace}
    (h : DataW.Trod enc Try.prog W 0 (fun _ => true) true 65 (.slice a len cap) d p) (hw : ∀ m ∈ d.weights Try.prog 65, m ≤ reachBytes) :
    ∃ l, ScrA W W.heap.size a len cap l ∧ (cap = 0 ∨ ∃ elems spare, d = .slice elems spare ∧ elems.length + spare.length = cap) := by
  obtain ⟨fuel, hf⟩ := h
  rcases open_slice Try.underlying65 hf with ⟨hcs, hx0⟩ | ⟨x, l, c, m, n, D, Pl, hcs, _, hl, hm, hmm, hx, hcell⟩
  · simp [Value.cells] at hcs
    obtain ⟨rfl, rfl, rfl⟩ := hcs
    exact ⟨[], ⟨⟨rfl, Nat.le_refl _, by unfold maxLen; omega, fun _ => ⟨rfl, rfl⟩, fun h => absurd h (by omega)⟩, (fun x hx => by cases hx)⟩, .inl rfl⟩
  · simp [Value.cells] at hcs
    obtain ⟨rfl, rfl, rfl⟩ := hcs
    have hmc : m = cap := by simpa using hmm
    subst hmc
    have hd : d = .slice ((List.range len).map D) ((List.range (m - len)).map fun j => D (len + j)) := congrArg Prod.fst hx
    have hwD : ∀ i, i < len → ∀ q ∈ (D i).weights Try.prog 72, q ≤ reachBytes := by
      intro i hi q hq
      refine hw q ?_
      rw [hd]
      simp only [DataW.weights, Try.underlying65, List.mem_cons, List.mem_append]
      exact .inr (.inl (weightsAll_mem (List.mem_map.2 ⟨i, by simpa using hi, rfl⟩) q hq))
    have each : ∀ i, i < len → ∃ o : PkV, (Arg W W.heap.size o.A o.n o.c o.zs ∧ o.ok) ∧ ∀ j, j < 4 → W.cell? ((x.add (i * 4)).add j) = o.cells[j]? := by
      intro i hi
      obtain ⟨cs', h1, h2⟩ := hcell i (by omega)
      rw [spk_cells] at h1
      obtain ⟨_, hlen, hc⟩ := World.cells?_some h1
      obtain ⟨o, ho, rfl⟩ := spk_one hlen h2 (hwD i hi)
      exact ⟨o, ho, fun j hj => hc j hj⟩
    obtain ⟨f, hfo⟩ := choose_lt each
    refine ⟨(List.range len).map f, ⟨⟨by rw [FK_len]; simp, hl, hm, (fun h => by cases h), fun hn => ?_⟩, fun y hy => ?_⟩, .inr ⟨_, _, hd, by simp; omega⟩⟩
    · have h0 : W.cell? ((x.add (0 * 4)).add 0) = some (.int .i64 (f 0).who) := (hfo 0 (by omega)).2 0 (by omega)
      obtain ⟨b, off, spot⟩ := x
      have hspot : spot = none := by simpa [Addr.add] using World.cell?_spot (w := W) h0
      subst hspot
      refine ⟨b, off, rfl, ?_, fun j hj => ?_⟩
      · exact World.block_lt_of_cell? W _ (by simpa [Addr.add] using h0)
      · have hi : j / 4 < len := by omega
        have hg := (hfo (j / 4) hi).2 (j % 4) (Nat.mod_lt _ (by omega))
        rw [spk_addr, spk_addr] at hg
        have e1 : off + j / 4 * 4 + j % 4 = off + j := by omega
        rw [e1] at hg
        have h2 := FK_at ((List.range len).map f) (j / 4) (j % 4) (by simpa using hi) (Nat.mod_lt _ (by omega))
        have e2 : j / 4 * 4 + j % 4 = j := by omega
        have e3 : ((List.range len).map f).getD (j / 4) noPk = f (j / 4) := by simp [List.getD_eq_getElem?_getD, hi]
        rw [e2, e3] at h2
        rw [h2, hg]
    · obtain ⟨i, hi, rfl⟩ := List.mem_map.1 hy
      exact (hfo i (by simpa using hi)).1
theorem spick_open {H : Type} {enc : TypeId × Value → H} {W : World} {r : Reach} {b0 : Nat} {v : Value} {d : DataW H} {p : List MemPlace} (hv : Value.okWide Try.prog W r b0 72 v)
    (h : DataW.Trod enc Try.prog W 0 (fun _ => true) true 72 v d p) (hw : ∀ m ∈ d.weights Try.prog 72, m ≤ reachBytes) :
    ∃ (who : Int) (op : Nat) (A : Option Addr) (n c : Nat) (zs : List Nat) (x : Int), v = .agg #[.int .i64 who, .int .u8 (op : Int), .slice A n c, .int .i64 x] ∧ Arg W W.heap.size A n c zs ∧ c ≤ 140737488351232 := by
  obtain ⟨cs, rfl, hsz⟩ := okWide_struct Try.underlying72 hv
  obtain ⟨l⟩ := cs
  obtain ⟨fuel, hf⟩ := h
  have hl : l.length = 4 := hsz.trans spk_cells
  have hf' : DataW.trod enc Try.prog W 0 (fun _ => true) true fuel 72 l = some (d, p) := by simpa [Value.cells] using hf
  obtain ⟨o, ⟨ha, hok⟩, rfl⟩ := spk_one hl hf' hw
  exact ⟨o.who, o.op, o.A, o.n, o.c, o.zs, o.x, rfl, ha, hok.kc⟩
end Go.Proofs.Ytpjgpiiibgogeaa
