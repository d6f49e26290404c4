/- A list of lists of bytes that comes in, opened; lists of bools. -/
import Derived.Test.YtlkkldegbopnpaaFrEM
import Derived.Deep.Grids
import Derived.Test.YtlkkldegbopnpaaBulk
import Derived.WalkKit
import Derived.ProofKit
import Derived.OpenShut
import Derived.SizedLaws
import Derived.Deep.Slices
namespace Go.Proofs.Ytlkkldegbopnpaa
open Go.ChangeShapes Go.WideShapes Go.ChangeAt Go.RowKit Go.Deep
set_option maxRecDepth 100000
set_option linter.unusedVariables false

theorem fa_u8 : Try.prog.cellsOf 5 = 1 := by kernel_rfl
theorem fa_b8 : Try.prog.bytesOf 5 = 1 := by kernel_rfl
theorem fa_sl : Try.prog.cellsOf 22 = 1 := by kernel_rfl
theorem fa_slb : Try.prog.bytesOf 22 = 24 := by kernel_rfl
theorem fa_addr (b off k : Nat) : (⟨b, off, none⟩ : Addr).add k = ⟨b, off + k, none⟩ := by unfold Addr.add; split <;> simp_all
theorem fa_key {H : Type} {enc : TypeId × Value → H} {W : World} {n : Nat} {cs : List Value} {x : DataW H × List MemPlace} (h : DataW.trod enc Try.prog W 0 (fun _ => true) true n 22 cs = some x) (hw : ∀ m ∈ x.1.weights Try.prog 22, m ≤ reachBytes) :
    ∃ A len cap zs, cs = [.slice A len cap] ∧ Arg W W.heap.size A len cap zs ∧ cap ≤ 140737488351232 ∧ zs.length ≤ Rows.uptoBulk x.1 := by
  have hin : ∃ A len cap, cs = [.slice A len cap] := by
    rcases open_ints Try.underlying22 Try.underlying5 fa_u8 h with ⟨hcs, _⟩ | ⟨a, l, c, zs, hcs, _⟩
    · exact ⟨none, 0, 0, hcs⟩
    · exact ⟨some a, l, c, hcs⟩
  obtain ⟨A, len, cap, rfl⟩ := hin
  obtain ⟨zs, ha, hz⟩ := Arg.of_trod (d := x.1) (p := x.2) Try.underlying22 Try.underlying5 fa_u8 ⟨n, h⟩
  refine ⟨A, len, cap, zs, rfl, ha, ?_, ?_⟩
  · rcases hz with hz | ⟨el, sp, e, hl⟩
    · omega
    · rw [e] at hw
      have := hw ((el.length + sp.length) * Try.prog.bytesOf 5) (by simp [DataW.weights, Try.underlying22])
      rw [fa_b8] at this
      simp only [reachBytes] at this
      omega
  · have h1 := ha.len
    have h2 := ha.le
    rcases hz with hz | ⟨el, sp, e, hl⟩
    · omega
    · rw [e]
      have := bulks.slice_le el sp
      omega
theorem fa_weights {H : Type} {P : Program} {e : TypeId} : ∀ {ds : List (DataW H)} {d : DataW H}, d ∈ ds → ∀ m ∈ d.weights P e, m ∈ DataW.weightsAll P e ds
  | [], d, hd, m, hm => by simp at hd
  | a :: r, d, hd, m, hm => by
    simp only [DataW.weightsAll, List.mem_append]
    rcases List.mem_cons.1 hd with rfl | hd
    · exact .inl hm
    · exact .inr (fa_weights hd m hm)
theorem fa_choose {α : Type} [Inhabited α] {n : Nat} {P : Nat → α → Prop} (h : ∀ i, i < n → ∃ x, P i x) : ∃ f : Nat → α, ∀ i, i < n → P i (f i) :=
  ⟨fun i => if hi : i < n then (h i hi).choose else default, fun i hi => by simp only [hi, dif_pos]; exact (h i hi).choose_spec⟩
theorem fa_sum {H : Type} (D : Nat → DataW H) (f : Nat → List Nat) : ∀ (l : List Nat), (∀ i ∈ l, (f i).length ≤ Rows.uptoBulk (D i)) → ((l.map f).map List.length).sum ≤ Rows.uptoBulkAll (l.map D) := by
  intro l
  induction l with
  | nil => intro _; simp [Rows.uptoBulkAll]
  | cons a r ih =>
    intro h
    have h1 := h a (by simp)
    have h2 := ih (fun i hi => h i (by simp [hi]))
    simp only [List.map_cons, List.sum_cons, Rows.uptoBulkAll]
    omega
/-- Lists of bytes that came in. -/
theorem lists_open {H : Type} {enc : TypeId × Value → H} {W : World} {a : Option Addr} {len cap : Nat} {d : DataW H} {p : List MemPlace}
    (h : DataW.Trod enc Try.prog W 0 (fun _ => true) true 46 (.slice a len cap) d p) (hw : ∀ m ∈ d.weights Try.prog 46, m ≤ reachBytes) :
    ∃ ps, ArgL W W.heap.size a len cap ps ∧ (cap = 0 ∨ ∃ elems spare, d = .slice elems spare ∧ elems.length + spare.length = cap) ∧ (∀ q ∈ ps, q.length ≤ 140737488351232) ∧ (ps.map List.length).sum ≤ Rows.uptoBulk d := by
  obtain ⟨fuel, hf⟩ := h
  rcases open_slice Try.underlying46 hf with ⟨hcs, hx0⟩ | ⟨x, l, c, m, n, D, Pl, hcs, _, hl, hm, hmm, hx, hcell⟩
  · simp [Value.cells] at hcs
    obtain ⟨rfl, rfl, rfl⟩ := hcs
    exact ⟨[], ⟨rfl, Nat.le_refl _, by unfold maxLen; omega, fun _ => ⟨rfl, rfl⟩, fun h => absurd h (by omega)⟩, .inl rfl, (fun x hx => by cases hx), by simp⟩
  · simp [Value.cells] at hcs
    obtain ⟨rfl, rfl, rfl⟩ := hcs
    have hmc : m = cap := by simpa using hmm
    subst hmc
    have hd : d = .slice ((List.range len).map D) ((List.range (m - len)).map fun j => D (len + j)) := congrArg Prod.fst hx
    have hwD : ∀ i, i < len → ∀ q ∈ (D i).weights Try.prog 22, q ≤ reachBytes := by
      intro i hi q hq
      refine hw q ?_
      rw [hd]
      simp only [DataW.weights, Try.underlying46, List.mem_cons, List.mem_append]
      exact .inr (.inl (fa_weights (List.mem_map.2 ⟨i, by simpa using hi, rfl⟩) q hq))
    have each : ∀ i, i < len → ∃ o : Option Addr × Nat × Nat × List Nat, Arg W W.heap.size o.1 o.2.1 o.2.2.1 o.2.2.2 ∧ o.2.2.1 ≤ 140737488351232 ∧ o.2.2.2.length ≤ Rows.uptoBulk (D i) ∧ W.cell? ((x.add i).add 0) = some (.slice o.1 o.2.1 o.2.2.1) := by
      intro i hi
      obtain ⟨cs', h1, h2⟩ := hcell i (by omega)
      rw [fa_sl, Nat.mul_one] at h1
      obtain ⟨_, hlen, hc⟩ := World.cells?_some h1
      obtain ⟨A, l, c, zs, rfl, k1, k2, k3⟩ := fa_key h2 (hwD i hi)
      exact ⟨(A, l, c, zs), k1, k2, k3, hc 0 (by omega)⟩
    obtain ⟨f, hfo⟩ := fa_choose each
    refine ⟨(List.range len).map fun i => (f i).2.2.2, ⟨by simp, hl, hm, (fun h => by cases h), fun hn => ?_⟩, .inr ⟨_, _, hd, by simp; omega⟩, fun q hq => ?_, ?_⟩
    · have h0 := (hfo 0 (by omega)).2.2.2
      obtain ⟨b, off, spot⟩ := x
      have hspot : spot = none := by simpa [Addr.add] using World.cell?_spot (w := W) h0
      subst hspot
      refine ⟨b, off, rfl, ?_, fun i hi => ?_⟩
      · exact World.block_lt_of_cell? W _ (by simpa [Addr.add] using h0)
      · obtain ⟨g1, g2, g3, g4⟩ := hfo i hi
        rw [fa_addr, fa_addr, Nat.add_zero] at g4
        refine ⟨_, _, _, g4, ?_⟩
        have e : ((List.range len).map fun i => (f i).2.2.2).getD i [] = (f i).2.2.2 := by simp [List.getD_eq_getElem?_getD, hi]
        rw [e]; exact g1
    · obtain ⟨i, hi, rfl⟩ := List.mem_map.1 hq
      obtain ⟨g1, g2, g3, g4⟩ := hfo i (by simpa using hi)
      have := g1.len
      have := g1.le
      omega
    · rw [hd]
      simp only [Rows.uptoBulk]
      have := fa_sum D (fun i => (f i).2.2.2) (List.range len) (fun i hi => (hfo i (by simpa using hi)).2.2.1)
      omega
theorem fa_key_u {H : Type} {enc : TypeId × Value → H} {W : World} {n : Nat} {cs : List Value} {x : DataW H × List MemPlace} (h : DataW.trod enc Try.prog W 0 (fun _ => true) true n 22 cs = some x) :
    ∃ A len cap zs, cs = [.slice A len cap] ∧ Arg W W.heap.size A len cap zs ∧ zs.length ≤ Rows.uptoBulk x.1 := by
  have hin : ∃ A len cap, cs = [.slice A len cap] := by
    rcases open_ints Try.underlying22 Try.underlying5 fa_u8 h with ⟨hcs, _⟩ | ⟨a, l, c, zs, hcs, _⟩
    · exact ⟨none, 0, 0, hcs⟩
    · exact ⟨some a, l, c, hcs⟩
  obtain ⟨A, len, cap, rfl⟩ := hin
  obtain ⟨zs, ha, hz⟩ := Arg.of_trod (d := x.1) (p := x.2) Try.underlying22 Try.underlying5 fa_u8 ⟨n, h⟩
  refine ⟨A, len, cap, zs, rfl, ha, ?_⟩
  have h1 := ha.len
  have h2 := ha.le
  rcases hz with hz | ⟨el, sp, e, hl⟩
  · omega
  · rw [e]
    have := bulks.slice_le el sp
    omega
/-- Lists of bytes that came in, by how much they hold. -/
theorem lists_open_u {H : Type} {enc : TypeId × Value → H} {W : World} {a : Option Addr} {len cap : Nat} {d : DataW H} {p : List MemPlace}
    (h : DataW.Trod enc Try.prog W 0 (fun _ => true) true 46 (.slice a len cap) d p) :
    ∃ ps, ArgL W W.heap.size a len cap ps ∧ (cap = 0 ∨ ∃ elems spare, d = .slice elems spare ∧ elems.length + spare.length = cap) ∧ (ps.map List.length).sum ≤ Rows.uptoBulk d := by
  obtain ⟨fuel, hf⟩ := h
  rcases open_slice Try.underlying46 hf with ⟨hcs, hx0⟩ | ⟨x, l, c, m, n, D, Pl, hcs, _, hl, hm, hmm, hx, hcell⟩
  · simp [Value.cells] at hcs
    obtain ⟨rfl, rfl, rfl⟩ := hcs
    exact ⟨[], ⟨rfl, Nat.le_refl _, by unfold maxLen; omega, fun _ => ⟨rfl, rfl⟩, fun h => absurd h (by omega)⟩, .inl rfl, by simp⟩
  · simp [Value.cells] at hcs
    obtain ⟨rfl, rfl, rfl⟩ := hcs
    have hmc : m = cap := by simpa using hmm
    subst hmc
    have hd : d = .slice ((List.range len).map D) ((List.range (m - len)).map fun j => D (len + j)) := congrArg Prod.fst hx
    have each : ∀ i, i < len → ∃ o : Option Addr × Nat × Nat × List Nat, Arg W W.heap.size o.1 o.2.1 o.2.2.1 o.2.2.2 ∧ o.2.2.2.length ≤ Rows.uptoBulk (D i) ∧ W.cell? ((x.add i).add 0) = some (.slice o.1 o.2.1 o.2.2.1) := by
      intro i hi
      obtain ⟨cs', h1, h2⟩ := hcell i (by omega)
      rw [fa_sl, Nat.mul_one] at h1
      obtain ⟨_, hlen, hc⟩ := World.cells?_some h1
      obtain ⟨A, l, c, zs, rfl, k1, k3⟩ := fa_key_u h2
      exact ⟨(A, l, c, zs), k1, k3, hc 0 (by omega)⟩
    obtain ⟨f, hfo⟩ := fa_choose each
    refine ⟨(List.range len).map fun i => (f i).2.2.2, ⟨by simp, hl, hm, (fun h => by cases h), fun hn => ?_⟩, .inr ⟨_, _, hd, by simp; omega⟩, ?_⟩
    · have h0 := (hfo 0 (by omega)).2.2
      obtain ⟨b, off, spot⟩ := x
      have hspot : spot = none := by simpa [Addr.add] using World.cell?_spot (w := W) h0
      subst hspot
      refine ⟨b, off, rfl, ?_, fun i hi => ?_⟩
      · exact World.block_lt_of_cell? W _ (by simpa [Addr.add] using h0)
      · obtain ⟨g1, g3, g4⟩ := hfo i hi
        rw [fa_addr, fa_addr, Nat.add_zero] at g4
        refine ⟨_, _, _, g4, ?_⟩
        have e : ((List.range len).map fun i => (f i).2.2.2).getD i [] = (f i).2.2.2 := by simp [List.getD_eq_getElem?_getD, hi]
        rw [e]; exact g1
    · rw [hd]
      simp only [Rows.uptoBulk]
      have := fa_sum D (fun i => (f i).2.2.2) (List.range len) (fun i hi => (hfo i (by simpa using hi)).2.1)
      omega
theorem bools_open {H : Type} {enc : TypeId × Value → H} {W : World} {a : Option Addr} {len cap : Nat} {d : DataW H} {p : List MemPlace} (h : DataW.Trod enc Try.prog W 0 (fun _ => true) true 47 (.slice a len cap) d p) : ∃ bs, ArgO W W.heap.size a len cap bs := by
  obtain ⟨fuel, hf⟩ := h
  rcases open_bools Try.underlying47 Try.underlying4 (by kernel_rfl) hf with ⟨hcs, hx0⟩ | ⟨x, l, c, Bf, hcs, _, hl, hm, hx, hcell⟩
  · simp [Value.cells] at hcs
    obtain ⟨rfl, rfl, rfl⟩ := hcs
    exact ⟨fun _ => false, ⟨fun h => absurd h (by omega)⟩⟩
  · simp [Value.cells] at hcs
    obtain ⟨rfl, rfl, rfl⟩ := hcs
    refine ⟨Bf, ⟨fun hn => ?_⟩⟩
    have h0 := hcell 0 (by omega)
    obtain ⟨b, off, spot⟩ := x
    have hspot : spot = none := by simpa [Addr.add] using World.cell?_spot (w := W) h0
    subst hspot
    refine ⟨b, off, rfl, ?_, fun k hk => ?_⟩
    · exact World.block_lt_of_cell? W _ (by simpa [Addr.add] using h0)
    · have := hcell k (by omega)
      rwa [fa_addr] at this
end Go.Proofs.Ytlkkldegbopnpaa
