/- hooks that come in, opened -/
import Derived.Test.YtifldnkcheobhaaDoorGvQ
import Derived.WalkKit
import Derived.ProofKit
import Derived.OpenShut
import Derived.SizedLaws
import Derived.Deep.Slices

/- Hooks that come in, opened. -/
namespace Go.Proofs.YtifldnkcheobhaaDoor
open Go.ChangeShapes Go.WideShapes Go.ChangeAt Go.RowKit Go.Deep
set_option maxRecDepth 100000
set_option linter.unusedVariables false

theorem hk_cells : Tryd.prog.cellsOf 53 = 2 := by kernel_rfl
theorem hk_bytes : Tryd.prog.bytesOf 53 = 40 := by kernel_rfl
theorem ac_cells : Tryd.prog.cellsOf 95 = 2 := by kernel_rfl
theorem ac_bytes : Tryd.prog.bytesOf 95 = 16 := by kernel_rfl
theorem as_cells : Tryd.prog.cellsOf 94 = 1 := by kernel_rfl
theorem as_bytes : Tryd.prog.bytesOf 94 = 24 := by kernel_rfl
theorem aas_cells : Tryd.prog.cellsOf 51 = 1 := by kernel_rfl
theorem hk_str : Tryd.prog.cellsOf 9 = 1 := by kernel_rfl
theorem hk_u8 : Tryd.prog.cellsOf 5 = 1 := by kernel_rfl
theorem hk_int : Tryd.prog.cellsOf 3 = 1 := by kernel_rfl
theorem hk_addr (b off k : Nat) : (⟨b, off, none⟩ : Addr).add k = ⟨b, off + k, none⟩ := by unfold Addr.add; split <;> simp_all
theorem hk_weights {H : Type} {P : Program} {e : TypeId} : ∀ {ds : List (DataW H)} {d : DataW H}, d ∈ ds → ∀ m ∈ d.weights P e, m ∈ DataW.weightsAll P e ds
  | [], d, hd, m, hm => by simp at hd
  | a :: r, d, hd, m, hm => by
    simp only [DataW.weightsAll, List.mem_append]
    rcases List.mem_cons.1 hd with rfl | hd
    · exact .inl hm
    · exact .inr (hk_weights hd m hm)
theorem hk_choose {α : Type} [Inhabited α] {n : Nat} {P : Nat → α → Prop} (h : ∀ i, i < n → ∃ x, P i x) : ∃ f : Nat → α, ∀ i, i < n → P i (f i) :=
  ⟨fun i => if hi : i < n then (h i hi).choose else default, fun i hi => by simp only [hi, dif_pos]; exact (h i hi).choose_spec⟩
theorem ac_u8 {a : Int} (h : (Lit.int .u8 a).wf = true) : ∃ n : Nat, a = n ∧ n < 256 := by
  simp [Lit.wf, IntKind.min, IntKind.max, IntKind.signed, IntKind.bits] at h
  exact ⟨a.toNat, by omega, by omega⟩
theorem ac_i64 {a : Int} (h : (Lit.int .i64 a).wf = true) : -9223372036854775808 ≤ a ∧ a ≤ 9223372036854775807 := by
  simp [Lit.wf, IntKind.min, IntKind.max, IntKind.signed, IntKind.bits] at h
  omega
section
variable {H : Type} {enc : TypeId × Value → H} {W : World} {n : Nat} {cs : List Value} {x : DataW H × List MemPlace}
theorem act_one (hlen : cs.length = 2) (h : DataW.trod enc Tryd.prog W 0 (fun _ => true) true n 95 cs = some x) :
    ∃ a : ActV, cs = [.int .u8 (a.1 : Int), .int .i64 a.2] ∧ a.1 < 256 ∧ -9223372036854775808 ≤ a.2 ∧ a.2 ≤ 9223372036854775807 := by
  obtain ⟨xs, k, hk, hxy, _, hxl, hf⟩ := DataW.trod_struct Tryd.underlying95 h
  match xs, hxl, cs, hlen with
  | [y0, y1], _, [v0, v1], _ =>
    have g0 : DataW.trod enc Tryd.prog W 0 (fun _ => true) true k 5 [v0] = some y0 := by simpa [hk_u8] using hf 0 _ rfl
    have g1 : DataW.trod enc Tryd.prog W 0 (fun _ => true) true k 3 [v1] = some y1 := by simpa [hk_int] using hf 1 _ rfl
    obtain ⟨z0, e0, _, w0⟩ := DataW.trod_int Tryd.underlying5 g0
    obtain ⟨z1, e1, _, w1⟩ := DataW.trod_int Tryd.underlying3 g1
    obtain ⟨b0, rfl, hb0⟩ := ac_u8 w0
    have b1 := ac_i64 w1
    refine ⟨(b0, z1), ?_, hb0, b1.1, b1.2⟩
    simp only [List.cons.injEq, and_true] at e0 e1 ⊢
    exact ⟨e0, e1⟩
theorem acts_open (h : DataW.trod enc Tryd.prog W 0 (fun _ => true) true n 94 cs = some x) (hw : ∀ m ∈ x.1.weights Tryd.prog 94, m ≤ reachBytes) :
    ∃ A c f, cs = [.slice A (f : List ActV).length c] ∧ ActW W W.heap.size (.slice A f.length c) f ∧ f.length * 16 ≤ 140737488355328 ∧ ∀ a ∈ f, a.1 < 256 ∧ -9223372036854775808 ≤ a.2 ∧ a.2 ≤ 9223372036854775807 := by
  rcases open_slice Tryd.underlying94 h with ⟨hcs, hx0⟩ | ⟨ad, len, cap, m, n, D, Pl, hcs, _, hl, hm, hmm, hx, hcell⟩
  · exact ⟨none, 0, [], hcs, ⟨none, 0, rfl, fun _ => rfl, fun a e => by cases e⟩, by simp, fun a ha => by cases ha⟩
  · have hmc : m = cap := by simpa using hmm
    subst hmc
    have hd : x.1 = .slice ((List.range len).map D) ((List.range (m - len)).map fun j => D (len + j)) := congrArg Prod.fst hx
    have hsz : m * 16 ≤ 140737488351232 := by
      have := hw (((List.range len).map D).length * 16 + ((List.range (m - len)).map fun j => D (len + j)).length * 16) (by
        rw [hd]
        simp only [DataW.weights, Tryd.underlying94, ac_bytes, List.mem_cons]
        left
        rw [Nat.add_mul])
      simp only [reachBytes, List.length_map, List.length_range] at this
      omega
    have each : ∀ i, i < len → ∃ o : ActV, (o.1 < 256 ∧ -9223372036854775808 ≤ o.2 ∧ o.2 ≤ 9223372036854775807) ∧ W.cell? ((ad.add (i * 2)).add 0) = some (.int .u8 (o.1 : Int)) ∧ W.cell? ((ad.add (i * 2)).add 1) = some (.int .i64 o.2) := by
      intro i hi
      obtain ⟨cs', h1, h2⟩ := hcell i (by omega)
      rw [ac_cells] at h1
      obtain ⟨_, hlen, hc⟩ := World.cells?_some h1
      obtain ⟨o, rfl, k1, k2, k3⟩ := act_one hlen h2
      exact ⟨o, ⟨k1, k2, k3⟩, hc 0 (by omega), hc 1 (by omega)⟩
    obtain ⟨f, hfo⟩ := hk_choose each
    have hll : ((List.range len).map f).length = len := by simp
    refine ⟨some ad, m, (List.range len).map f, by rw [hll]; exact hcs, ⟨some ad, m, rfl, (fun e => by cases e), fun a ha h0 => ?_⟩, by rw [hll]; omega, fun a ha => ?_⟩
    · injection ha with ha
      subst ha
      rw [hll] at h0
      have h0c := (hfo 0 h0).2.1
      obtain ⟨b, off, spot⟩ := ad
      have hspot : spot = none := by simpa [Addr.add] using World.cell?_spot (w := W) h0c
      subst hspot
      refine ⟨rfl, World.block_lt_of_cell? W _ (by simpa [Addr.add] using h0c), fun j a hj => ?_⟩
      have hjl : j < len := by have := (List.getElem?_eq_some_iff.1 hj).1; simpa using this
      rw [List.getElem?_map, List.getElem?_range hjl] at hj
      simp at hj
      subst hj
      obtain ⟨_, g1, g2⟩ := hfo j hjl
      rw [hk_addr, hk_addr] at g1 g2
      exact ⟨by simpa using g1, by simpa [Nat.add_assoc] using g2⟩
    · obtain ⟨i, hi, rfl⟩ := List.mem_map.1 ha
      exact (hfo i (by simpa using hi)).1
theorem prog_open (h : DataW.trod enc Tryd.prog W 0 (fun _ => true) true n 51 cs = some x) (hw : ∀ m ∈ x.1.weights Tryd.prog 51, m ≤ reachBytes) :
    ∃ A c p, cs = [.slice A (p : List (List ActV)).length c] ∧ ProgW W W.heap.size (.slice A p.length c) p ∧ ProgS p ∧ ProgR p := by
  rcases open_slice Tryd.underlying51 h with ⟨hcs, hx0⟩ | ⟨ad, len, cap, m, n, D, Pl, hcs, _, hl, hm, hmm, hx, hcell⟩
  · exact ⟨none, 0, [], hcs, ⟨none, 0, rfl, fun _ => rfl, fun a e => by cases e⟩, ⟨by simp, fun i f hf => by simp at hf⟩, ⟨by simp, fun i f hf => by simp at hf⟩⟩
  · have hmc : m = cap := by simpa using hmm
    subst hmc
    have hd : x.1 = .slice ((List.range len).map D) ((List.range (m - len)).map fun j => D (len + j)) := congrArg Prod.fst hx
    have hsz : m * 24 ≤ 140737488351232 := by
      have := hw (((List.range len).map D).length * 24 + ((List.range (m - len)).map fun j => D (len + j)).length * 24) (by
        rw [hd]
        simp only [DataW.weights, Tryd.underlying51, as_bytes, List.mem_cons]
        left
        rw [Nat.add_mul])
      simp only [reachBytes, List.length_map, List.length_range] at this
      omega
    have hwD : ∀ i, i < len → ∀ q ∈ (D i).weights Tryd.prog 94, q ≤ reachBytes := by
      intro i hi q hq
      refine hw q ?_
      rw [hd]
      simp only [DataW.weights, Tryd.underlying51, List.mem_cons, List.mem_append]
      exact .inr (.inl (hk_weights (List.mem_map.2 ⟨i, by simpa using hi, rfl⟩) q hq))
    have each : ∀ i, i < len → ∃ o : Option Addr × Nat × List ActV, (ActW W W.heap.size (.slice o.1 o.2.2.length o.2.1) o.2.2 ∧ o.2.2.length * 16 ≤ 140737488355328 ∧ ∀ a ∈ o.2.2, a.1 < 256 ∧ -9223372036854775808 ≤ a.2 ∧ a.2 ≤ 9223372036854775807) ∧ W.cell? ((ad.add i).add 0) = some (.slice o.1 o.2.2.length o.2.1) := by
      intro i hi
      obtain ⟨cs', h1, h2⟩ := hcell i (by omega)
      rw [as_cells, Nat.mul_one] at h1
      obtain ⟨_, hlen, hc⟩ := World.cells?_some h1
      obtain ⟨A, c, f, rfl, k1, k2, k3⟩ := acts_open h2 (hwD i hi)
      exact ⟨(A, c, f), ⟨k1, k2, k3⟩, hc 0 (by omega)⟩
    obtain ⟨f, hfo⟩ := hk_choose each
    have hll : ((List.range len).map fun i => (f i).2.2).length = len := by simp
    have hat : ∀ i g, ((List.range len).map fun i => (f i).2.2)[i]? = some g → i < len ∧ (f i).2.2 = g := by
      intro i g hg
      have hil : i < len := by have := (List.getElem?_eq_some_iff.1 hg).1; simpa using this
      rw [List.getElem?_map, List.getElem?_range hil] at hg
      simp at hg
      exact ⟨hil, hg⟩
    refine ⟨some ad, m, (List.range len).map fun i => (f i).2.2, by rw [hll]; exact hcs, ⟨some ad, m, rfl, (fun e => by cases e), fun a ha h0 => ?_⟩, ⟨by rw [hll]; omega, fun i g hg => ?_⟩, ⟨by rw [hll]; omega, fun i g hg => ?_⟩⟩
    · injection ha with ha
      subst ha
      rw [hll] at h0
      have h0c := (hfo 0 h0).2
      obtain ⟨b, off, spot⟩ := ad
      have hspot : spot = none := by simpa [Addr.add] using World.cell?_spot (w := W) h0c
      subst hspot
      refine ⟨rfl, World.block_lt_of_cell? W _ (by simpa [Addr.add] using h0c), fun i g hg => ?_⟩
      obtain ⟨hil, rfl⟩ := hat i g hg
      obtain ⟨⟨g1, g2, g3⟩, g4⟩ := hfo i hil
      rw [hk_addr, hk_addr] at g4
      exact ⟨_, by simpa using g4, g1⟩
    · obtain ⟨hil, rfl⟩ := hat i g hg
      exact (hfo i hil).1.2.1
    · obtain ⟨hil, rfl⟩ := hat i g hg
      obtain ⟨⟨g1, g2, g3⟩, g4⟩ := hfo i hil
      exact ⟨by omega, g3⟩
theorem hook_one (hlen : cs.length = 2) (h : DataW.trod enc Tryd.prog W 0 (fun _ => true) true n 53 cs = some x) (hw : ∀ m ∈ x.1.weights Tryd.prog 53, m ≤ reachBytes) :
    ∃ (k : HookV) (A : Option Addr) (c : Nat), cs = [.string k.nm, .slice A k.p.length c] ∧ ProgW W W.heap.size (.slice A k.p.length c) k.p ∧ ProgS k.p ∧ ProgR k.p ∧ k.nm.size ≤ 140737488351232 := by
  obtain ⟨xs, k, hk, hxy, _, hxl, hf⟩ := DataW.trod_struct Tryd.underlying53 h
  match xs, hxl, cs, hlen with
  | [y0, y1], _, [v0, v1], _ =>
    have g0 : DataW.trod enc Tryd.prog W 0 (fun _ => true) true k 9 [v0] = some y0 := by simpa [hk_str] using hf 0 _ rfl
    have g1 : DataW.trod enc Tryd.prog W 0 (fun _ => true) true k 51 [v1] = some y1 := by simpa [aas_cells] using hf 1 _ rfl
    have hx1 : x.1 = .agg [y0.1, y1.1] := by rw [hxy]; rfl
    rw [hx1] at hw
    obtain ⟨nm, e0, w0, -⟩ := DataW.trod_string Tryd.underlying9 g0
    obtain ⟨A, c, p, e1, k1, k2, k3⟩ := prog_open g1 (fun m hm => hw m (by
      simp only [DataW.weights, Tryd.underlying53]
      exact DataW.weights_mem_each (j := 1) rfl rfl m hm))
    have hn : nm.size ≤ 140737488351232 := by
      have := hw nm.data.toList.length (by
        simp only [DataW.weights, Tryd.underlying53]
        exact DataW.weights_mem_each (j := 0) rfl rfl _ (by rw [w0]; simp [DataW.weights]))
      simp only [reachBytes, Array.length_toList] at this
      exact this
    simp only [List.cons.injEq, and_true] at e0 e1
    exact ⟨⟨nm, p⟩, A, c, by rw [e0, e1], k1, k2, k3, hn⟩
end
theorem hooks_open {H : Type} {enc : TypeId × Value → H} {W : World} {a : Option Addr} {len cap : Nat} {d : DataW H} {p : List MemPlace}
    (h : DataW.Trod enc Tryd.prog W 0 (fun _ => true) true 41 (.slice a len cap) d p) (hw : ∀ m ∈ d.weights Tryd.prog 41, m ≤ reachBytes) :
    ∃ l, HksA W (.slice a len cap) l := by
  obtain ⟨fuel, hf⟩ := h
  rcases open_slice Tryd.underlying41 hf with ⟨hcs, hx0⟩ | ⟨ad, l, c, m, n, D, Pl, hcs, _, hl, hm, hmm, hx, hcell⟩
  · simp [Value.cells] at hcs
    obtain ⟨rfl, rfl, rfl⟩ := hcs
    exact ⟨[], ⟨⟨none, 0, rfl, (fun _ => rfl), (fun a e => by cases e)⟩, ⟨by simp, (fun x hx => by cases hx)⟩, (fun x hx => by cases hx), (fun x hx => by cases hx)⟩⟩
  · simp [Value.cells] at hcs
    obtain ⟨rfl, rfl, rfl⟩ := hcs
    have hmc : m = cap := by simpa using hmm
    subst hmc
    have hd : d = .slice ((List.range len).map D) ((List.range (m - len)).map fun j => D (len + j)) := congrArg Prod.fst hx
    have hsz : m * 40 ≤ 140737488351232 := by
      have := hw (((List.range len).map D).length * 40 + ((List.range (m - len)).map fun j => D (len + j)).length * 40) (by
        rw [hd]
        simp only [DataW.weights, Tryd.underlying41, hk_bytes, List.mem_cons]
        left
        rw [Nat.add_mul])
      simp only [reachBytes, List.length_map, List.length_range] at this
      omega
    have hwD : ∀ i, i < len → ∀ q ∈ (D i).weights Tryd.prog 53, q ≤ reachBytes := by
      intro i hi q hq
      refine hw q ?_
      rw [hd]
      simp only [DataW.weights, Tryd.underlying41, List.mem_cons, List.mem_append]
      exact .inr (.inl (hk_weights (List.mem_map.2 ⟨i, by simpa using hi, rfl⟩) q hq))
    have each : ∀ i, i < len → ∃ o : HookV × Option Addr × Nat, (ProgW W W.heap.size (.slice o.2.1 o.1.p.length o.2.2) o.1.p ∧ ProgS o.1.p ∧ ProgR o.1.p ∧ o.1.nm.size ≤ 140737488351232) ∧ W.cell? ((ad.add (i * 2)).add 0) = some (.string o.1.nm) ∧ W.cell? ((ad.add (i * 2)).add 1) = some (.slice o.2.1 o.1.p.length o.2.2) := by
      intro i hi
      obtain ⟨cs', h1, h2⟩ := hcell i (by omega)
      rw [hk_cells] at h1
      obtain ⟨_, hlen, hc⟩ := World.cells?_some h1
      obtain ⟨o, A, c, rfl, k1, k2, k3, k4⟩ := hook_one hlen h2 (hwD i hi)
      exact ⟨(o, A, c), ⟨k1, k2, k3, k4⟩, hc 0 (by omega), hc 1 (by omega)⟩
    have : Inhabited (HookV × Option Addr × Nat) := ⟨(⟨⟨#[]⟩, []⟩, none, 0)⟩
    obtain ⟨f, hfo⟩ := hk_choose each
    have hll : ((List.range len).map fun i => (f i).1).length = len := by simp
    have hme : ∀ x ∈ (List.range len).map fun i => (f i).1, ∃ i, i < len ∧ (f i).1 = x := by
      intro x hx
      obtain ⟨i, hi, rfl⟩ := List.mem_map.1 hx
      exact ⟨i, by simpa using hi, rfl⟩
    refine ⟨(List.range len).map fun i => (f i).1, ⟨⟨some ad, m, by rw [hll], (fun e => by cases e), fun a ha h0 => ?_⟩, ⟨by rw [hll]; omega, fun x hx => ?_⟩, fun x hx => ?_, fun x hx => ?_⟩⟩
    · injection ha with ha
      subst ha
      rw [hll] at h0
      have h0c := (hfo 0 h0).2.1
      obtain ⟨b, off, spot⟩ := ad
      have hspot : spot = none := by simpa [Addr.add] using World.cell?_spot (w := W) h0c
      subst hspot
      refine ⟨rfl, World.block_lt_of_cell? W _ (by simpa [Addr.add] using h0c), fun i g hg => ?_⟩
      have hil : i < len := by have := (List.getElem?_eq_some_iff.1 hg).1; simpa using this
      rw [List.getElem?_map, List.getElem?_range hil] at hg
      simp at hg
      subst hg
      obtain ⟨⟨g1, g2, g3, g4⟩, g5, g6⟩ := hfo i hil
      rw [hk_addr, hk_addr] at g5 g6
      exact ⟨by simpa using g5, _, by simpa [Nat.add_assoc] using g6, g1⟩
    · obtain ⟨i, hi, rfl⟩ := hme x hx; exact (hfo i hi).1.2.1
    · obtain ⟨i, hi, rfl⟩ := hme x hx; exact (hfo i hi).1.2.2.1
    · obtain ⟨i, hi, rfl⟩ := hme x hx; exact (hfo i hi).1.2.2.2
end Go.Proofs.YtifldnkcheobhaaDoor


/- A nil list of hooks that comes in has no room. -/
namespace Go.Proofs.YtifldnkcheobhaaDoor
open Go.ChangeShapes Go.WideShapes Go.ChangeAt Go.RowKit Go.Deep
set_option maxRecDepth 100000
set_option linter.unusedVariables false

theorem hooks_nil {H : Type} {enc : TypeId × Value → H} {W : World} {a : Option Addr} {len cap : Nat} {d : DataW H} {p : List MemPlace}
    (h : DataW.Trod enc Tryd.prog W 0 (fun _ => true) true 41 (.slice a len cap) d p) : a = none → cap = 0 := by
  intro ha
  subst ha
  obtain ⟨fuel, hf⟩ := h
  rcases open_slice Tryd.underlying41 hf with ⟨hcs, hx0⟩ | ⟨ad, l, c, m, n, D, Pl, hcs, _, hl, hm, hmm, hx, hcell⟩
  · simp [Value.cells] at hcs
    exact hcs.2
  · simp [Value.cells] at hcs
end Go.Proofs.YtifldnkcheobhaaDoor
