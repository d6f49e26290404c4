/- Own lists of elements of several cells, that begin anywhere in their block: appends, stores, the rest behind the first one. -/
import Derived.Test.YtifldnkcheobhaaDoorFrA
namespace Go.Proofs.YtifldnkcheobhaaDoor
open Go.RowKit
set_option maxRecDepth 100000
set_option linter.unusedVariables false

structure OwnS (w : World) (B k : Nat) (A : Option Addr) (n c : Nat) (vs : List Value) : Prop where
  len : vs.length = n * k
  le : n ≤ c
  cap : c ≤ maxLen
  none_ : A = none → n = 0 ∧ c = 0
  at_ : ∀ a, A = some a → a = ⟨a.block, a.off, none⟩ ∧ B ≤ a.block ∧ a.block < w.heap.size ∧
    (∀ j, j < c * k → (w.cell? ⟨a.block, a.off + j, none⟩).isSome = true ∧ w.frozen? ⟨a.block, a.off + j, none⟩ = false) ∧ ∀ j v, vs[j]? = some v → w.cell? ⟨a.block, a.off + j, none⟩ = some v
section
variable {w w' : World} {B B' k n c : Nat} {A : Option Addr} {vs : List Value} {S : List Nat}
theorem OwnS.nil (w : World) (B k : Nat) : OwnS w B k none 0 0 [] := ⟨by simp, Nat.le_refl _, by unfold maxLen; omega, fun _ => ⟨rfl, rfl⟩, fun a h => by cases h⟩
theorem OwnS.off (h : OwnS w B k A n c vs) (hf : Off S w w') (hS : ∀ y ∈ bkV A, y ∉ S) : OwnS w' B k A n c vs := by
  refine ⟨h.len, h.le, h.cap, h.none_, fun a ha => ?_⟩
  obtain ⟨h1, h2, h3, h4, h5⟩ := h.at_ a ha
  have hn : a.block ∉ S := hS _ (by rw [ha]; simp [bkV])
  refine ⟨h1, h2, Nat.lt_of_lt_of_le h3 hf.size, fun j hj => ?_, fun j v hj => ?_⟩
  · rw [hf.cell (p := ⟨a.block, a.off + j, none⟩) h3 hn, hf.frozen (p := ⟨a.block, a.off + j, none⟩) h3 hn]; exact h4 j hj
  · rw [hf.cell (p := ⟨a.block, a.off + j, none⟩) h3 hn]; exact h5 j v hj
theorem OwnS.below (h : OwnS w B k A n c vs) (hb : Below w.heap.size w w') : OwnS w' B k A n c vs := h.off (S := []) (Off.of_below hb) (by simp)
theorem OwnS.mono (h : OwnS w B k A n c vs) (hB : B' ≤ B) : OwnS w B' k A n c vs :=
  ⟨h.len, h.le, h.cap, h.none_, fun a ha => by obtain ⟨h1, h2, h3⟩ := h.at_ a ha; exact ⟨h1, by omega, h3⟩⟩
theorem OwnS.lt (h : OwnS w B k A n c vs) : ∀ y ∈ bkV A, B ≤ y ∧ y < w.heap.size := by
  intro y hy
  cases hA : A with
  | none => rw [hA] at hy; simp [bkV] at hy
  | some a =>
    rw [hA] at hy
    simp only [bkV, List.mem_cons, List.not_mem_nil, or_false] at hy
    subst hy
    have := h.at_ a hA
    exact ⟨this.2.1, this.2.2.1⟩
theorem OwnS.cell (h : OwnS w B k A n c vs) (hn : 0 < n) : ∃ b off, A = some ⟨b, off, none⟩ ∧ B ≤ b ∧ b < w.heap.size ∧ (∀ j v, vs[j]? = some v → w.cell? ⟨b, off + j, none⟩ = some v) ∧ ∀ j, j < n * k → w.frozen? ⟨b, off + j, none⟩ = false := by
  cases hA : A with
  | none => have := h.none_ hA; omega
  | some a =>
    obtain ⟨h1, h2, h3, h4, h5⟩ := h.at_ a hA
    exact ⟨a.block, a.off, by rw [h1], h2, h3, h5, fun j hj => (h4 j (Nat.lt_of_lt_of_le hj (Nat.mul_le_mul_right _ h.le))).2⟩
/-- A store. -/
theorem OwnS.set {b off : Nat} (h : OwnS w B k (some ⟨b, off, none⟩) n c vs) (j : Nat) (v : Value) (hj : j < n * k) : OwnS (w.setCell ⟨b, off + j, none⟩ v) B k (some ⟨b, off, none⟩) n c (vs.set j v) := by
  refine ⟨by simpa using h.len, h.le, h.cap, (fun e => by cases e), fun a ha => ?_⟩
  injection ha with ha
  subst ha
  obtain ⟨h1, h2, h3, h4, h5⟩ := h.at_ _ rfl
  have hl : n * k ≤ c * k := Nat.mul_le_mul_right _ h.le
  have hln := h.len
  obtain ⟨u, hu⟩ := Option.isSome_iff_exists.1 (h4 j (by omega)).1
  refine ⟨rfl, h2, by simpa using h3, fun i hi => ⟨?_, by simpa using (h4 i hi).2⟩, fun i x hx => ?_⟩
  · by_cases e : i = j
    · subst e; rw [World.cell?_setCell_same _ _ _ hu]; rfl
    · rw [World.cell?_setCell_other _ _ _ _ (by simp <;> omega)]; exact (h4 i hi).1
  · by_cases e : i = j
    · subst e
      rw [World.cell?_setCell_same _ _ _ hu]
      rw [List.getElem?_set_self (by omega)] at hx
      exact hx
    · rw [List.getElem?_set_ne (Ne.symm e)] at hx
      rw [World.cell?_setCell_other _ _ _ _ (by simp <;> omega)]; exact h5 i x hx
/-- The rest behind the first one. -/
theorem OwnS.tail {b off : Nat} (h : OwnS w B k (some ⟨b, off, none⟩) (n + 1) (c + 1) vs) : OwnS w B k (some ⟨b, off + k, none⟩) n c (vs.drop k) := by
  refine ⟨by rw [List.length_drop, h.len, Nat.succ_mul]; omega, by have := h.le; omega, by have := h.cap; omega, (fun e => by cases e), fun a ha => ?_⟩
  injection ha with ha
  subst ha
  obtain ⟨h1, h2, h3, h4, h5⟩ := h.at_ _ rfl
  refine ⟨rfl, h2, h3, fun j hj => ?_, fun j v hj => ?_⟩
  · have := h4 (k + j) (by rw [Nat.succ_mul]; omega)
    simpa [Nat.add_assoc] using this
  · have := h5 (k + j) v (by rw [List.getElem?_drop] at hj; exact hj)
    simpa [Nat.add_assoc] using this
/-- What is read by an append: cells, wherever they lie; or nothing. -/
structure SrcS (w : World) (k : Nat) (S : Option Addr) (m : Nat) (ts : List Value) : Prop where
  len : ts.length = m * k
  none_ : S = none → m = 0
  at_ : ∀ ad, S = some ad → ∀ j u, ts[j]? = some u → w.cell? (ad.add j) = some u
  one : ∀ u ∈ ts, u.oneCell' = true
theorem OwnS.src (h : OwnS w B k A n c vs) (h1 : ∀ u ∈ vs, u.oneCell' = true) : SrcS w k A n vs :=
  ⟨h.len, fun e => (h.none_ e).1, fun ad e j u hj => by
    obtain ⟨a1, a2, a3, a4, a5⟩ := h.at_ ad e
    rw [a1, add_litV]; exact a5 j u hj, h1⟩
theorem BlkL.srcS {p : Nat} {ts : List Value} (h : BlkL w p ts) (h1 : ∀ u ∈ ts, u.oneCell' = true) (m : Nat) (hm : ts.length = m * k) : SrcS w k (some ⟨p, 0, none⟩) m ts :=
  ⟨hm, (fun e => by cases e), fun ad e j u hj => by injection e with e; subst e; rw [add_litV, Nat.zero_add]; exact h.cell j u hj, h1⟩
/-- An append of some. -/
theorem append_gs {P : Program} {Ts T : TypeId} {i0 : TypeInfo} {z : Value} {bts : Nat} (hu : P.underlying Ts = some (.slice T)) (hi : P.info? T = some i0) (hz0 : i0.zero = some z) (hz1 : i0.size = k) (hz2 : i0.bytes = bts) (hzc : z.cells.size = k)
    (hown : OwnS w B k A n c vs) (ad : Addr) (m cm : Nat) (ts : List Value) (hm : ts.length = m * k) (hnews : ∀ j u, ts[j]? = some u → w.cell? (ad.add j) = some u) (h1 : ∀ u ∈ ts, u.oneCell' = true) (hm0 : 0 < m) (hb : 1 ≤ bts) (hn : (n + m) * bts ≤ 140737488355328) (hB : B ≤ w.heap.size) :
    ∃ A' c' w', (∀ ty, (Builtin.append_ #[Ts, Ts] ty #[.slice A n c, .slice (some ad) m cm]).run P w = .ok (.slice A' (n + m) c') w') ∧ OwnS w' B k A' (n + m) c' (vs ++ ts) ∧ Off (bkV A) w w' ∧ (∀ y ∈ bkV A', y ∈ bkV A ∨ y = w.heap.size ∧ y < w'.heap.size) := by
  have hcp := hown.cap
  have hle := hown.le
  have hzl := hown.len
  unfold maxLen at hcp
  have hnm : n + m ≤ 140737488355328 := Nat.le_trans (Nat.le_mul_of_pos_right _ hb) hn
  have hl : ts.length = m * i0.size := by rw [hz1, hm]
  have hadd : (n + m) * k = n * k + m * k := Nat.add_mul _ _ _
  have grown : ∀ (old : Nat), n + m ≤ grownCap w (n + m) old T ∧ grownCap w (n + m) old T ≤ maxLen ∧
      OwnS (w.drew.alloc (.cells (vs.toArray ++ ts.toArray ++ Builtin.zeroCells z.cells (grownCap w (n + m) old T - (n + m))) T)) B k (some ⟨w.heap.size, 0, none⟩) (n + m) (grownCap w (n + m) old T) (vs ++ ts) := by
    intro old
    have g1 := grownCap_ge w (n + m) old T
    have g2 := grownCap_le_maxLen w (n + m) old T (by unfold maxLen; omega)
    have g3 : (grownCap w (n + m) old T - (n + m)) * k = grownCap w (n + m) old T * k - (n + m) * k := Nat.sub_mul _ _ _
    refine ⟨g1, g2, ⟨by simp [hzl, hm, hadd], g1, g2, fun e => by simp at e, fun b hb => ?_⟩⟩
    injection hb with hb
    subst hb
    have hblk : (w.drew.alloc (.cells (vs.toArray ++ ts.toArray ++ Builtin.zeroCells z.cells (grownCap w (n + m) old T - (n + m))) T)).heap[w.heap.size]? = _ := heap_alloc_new w.drew _
    refine ⟨rfl, hB, by simp, fun j hj => ⟨?_, frozen_of_row _ _ _ _ _ hblk⟩, fun j v hj => ?_⟩
    · show (World.cell? _ ⟨w.heap.size, 0 + j, none⟩).isSome = true
      rw [Nat.zero_add, cell_of_row _ _ _ _ _ (0, 0) hblk]
      rw [Array.getElem?_eq_getElem (by simp [size_zeroCells, hzl, hm, hzc]; rw [g3]; omega)]
      rfl
    · show World.cell? _ ⟨w.heap.size, 0 + j, none⟩ = _
      rw [Nat.zero_add, cell_of_row _ _ _ _ _ (0, 0) hblk, ← Array.getElem?_toList]
      simp only [Array.toList_append]
      have hjl : j < (vs ++ ts).length := (List.getElem?_eq_some_iff.1 hj).1
      rw [List.getElem?_append_left (by simpa using hjl)]
      exact hj
  cases A with
  | none =>
    obtain ⟨rfl, rfl⟩ := hown.none_ rfl
    obtain rfl : vs = [] := List.eq_nil_of_length_eq_zero (by rw [hzl]; simp)
    obtain ⟨g1, g2, g3⟩ := grown 0
    simp only [Nat.zero_add] at g1 g2 g3 hn hnm
    refine ⟨_, _, _, fun ty => by simpa using run_append_nil (P := P) w Ts ty T i0 z hu hi hz0 ad m cm _ hl hnews (by omega) (by omega) (by rw [hz2]; omega), ?_, ?_, ?_⟩
    · simpa using g3
    · exact ⟨rfl, rfl, rfl, by simp, fun k hk _ => heap_alloc_old w.drew _ hk⟩
    · intro y hy; simp [bkV] at hy; exact .inr ⟨hy, by rw [hy]; simp⟩
  | some b =>
    obtain ⟨b1, b2, b3, b4, b5⟩ := hown.at_ b rfl
    obtain ⟨bb, bo, bs⟩ := b
    simp only [Addr.mk.injEq, true_and] at b1
    subst b1
    simp only at b2 b3 b4 b5
    by_cases hroom : n + m ≤ c
    · have hrm : n * k + m * k ≤ c * k := by rw [← hadd]; exact Nat.mul_le_mul_right _ hroom
      refine ⟨some ⟨bb, bo, none⟩, c, w.setCells bb (bo + n * k) ts, fun ty => ?_, ?_, ?_, ?_⟩
      · have hf := run_firstCells_some (P := P) w i0.size m ad m cm _ hl hnews
        have hst := run_storeCells_cells (P := P) bb (bo + n * k) ts 0 w (fun j hj => by
          have := (b4 (n * k + j) (by omega)).1
          rwa [show bo + n * k + 0 + j = bo + (n * k + j) by omega]) (fun j hj => by
          have := (b4 (n * k + j) (by omega)).2
          rwa [show bo + n * k + 0 + j = bo + (n * k + j) by omega]) h1
        have ea : (⟨bb, bo, none⟩ : Addr).add (n * i0.size) = ⟨bb, bo + n * k, none⟩ := by rw [hz1, add_litV]
        simp [Builtin.append_, run_underlying hu, sizeOf, typeInfo, hi, Builtin.lenOf, hroom, hf, ea, hst]
      · refine ⟨by simp [hzl, hm, hadd], hroom, hown.cap, fun e => by simp at e, fun b hb => ?_⟩
        injection hb with hb
        subst hb
        refine ⟨rfl, b2, ?_, fun j hj => ?_, fun j v hj => ?_⟩
        · exact Nat.lt_of_lt_of_le b3 ((Off.refl [bb] w).setCells (by simp) ts (bo + n * k)).size
        · show (World.cell? _ ⟨bb, bo + j, none⟩).isSome = true ∧ World.frozen? _ ⟨bb, bo + j, none⟩ = false
          refine ⟨?_, by rw [World.frozen?_setCells]; exact (b4 j hj).2⟩
          rcases Nat.lt_or_ge j (n * k) with h | h
          · rw [World.cell?_setCells_out _ _ _ _ _ (fun _ _ => .inl (by simp; omega))]; exact (b4 j hj).1
          · rcases Nat.lt_or_ge j (n * k + m * k) with h' | h'
            · have := World.cell?_setCells_in bb ts (bo + n * k) w (fun i hk => by
                have := (b4 (n * k + i) (by omega)).1
                rwa [show bo + n * k + i = bo + (n * k + i) by omega]) (j - n * k) (by omega)
              rw [show bo + n * k + (j - n * k) = bo + j by omega] at this
              rw [this]; rfl
            · rw [World.cell?_setCells_out _ _ _ _ _ (fun _ _ => .inr (by simp; omega))]; exact (b4 j hj).1
        · show World.cell? _ ⟨bb, bo + j, none⟩ = _
          have hjl : j < (vs ++ ts).length := (List.getElem?_eq_some_iff.1 hj).1
          rw [List.length_append, hzl, hm] at hjl
          rcases Nat.lt_or_ge j (n * k) with h | h
          · rw [World.cell?_setCells_out _ _ _ _ _ (fun _ _ => .inl (by simp; omega))]
            rw [List.getElem?_append_left (by omega)] at hj
            exact b5 j v hj
          · have := World.cell?_setCells_in bb ts (bo + n * k) w (fun i hk => by
              have := (b4 (n * k + i) (by omega)).1
              rwa [show bo + n * k + i = bo + (n * k + i) by omega]) (j - n * k) (by omega)
            rw [show bo + n * k + (j - n * k) = bo + j by omega] at this
            rw [this]
            rw [List.getElem?_append_right (by omega), hzl, List.getElem?_eq_getElem (by omega)] at hj
            exact hj
      · exact (Off.refl _ _).setCells (by simp [bkV]) _ _
      · intro y hy; exact .inl hy
    · obtain ⟨g1, g2, g3⟩ := grown c
      have hold : ∀ j v, vs[j]? = some v → w.cell? ((⟨bb, bo, none⟩ : Addr).add j) = some v := fun j v hv => by
        rw [add_litV]; exact b5 j v hv
      refine ⟨_, _, _, fun ty => run_append_grow (P := P) w Ts ty T i0 z hu hi hz0 ⟨bb, bo, none⟩ n c vs (by rw [hz1, hzl]) hold ad m cm _ hl hnews (by omega) (by omega) (growslice_fits (by omega) (by rw [hz2]; exact hn)), g3, ⟨rfl, rfl, rfl, by simp, fun k hk _ => heap_alloc_old w.drew _ hk⟩, ?_⟩
      intro y hy; simp [bkV] at hy; exact .inr ⟨hy, by rw [hy]; simp⟩
theorem append_alls {P : Program} {Ts T : TypeId} {i0 : TypeInfo} {z : Value} {bts : Nat} (hu : P.underlying Ts = some (.slice T)) (hi : P.info? T = some i0) (hz0 : i0.zero = some z) (hz1 : i0.size = k) (hz2 : i0.bytes = bts) (hzc : z.cells.size = k)
    (hown : OwnS w B k A n c vs) (S : Option Addr) (m cm : Nat) (ts : List Value) (hs : SrcS w k S m ts) (hcm : S = none → cm = 0) (hb : 1 ≤ bts) (hn : (n + m) * bts ≤ 140737488355328) (hB : B ≤ w.heap.size) :
    ∃ A' c' w', (∀ ty, (Builtin.append_ #[Ts, Ts] ty #[.slice A n c, .slice S m cm]).run P w = .ok (.slice A' (n + m) c') w') ∧ OwnS w' B k A' (n + m) c' (vs ++ ts) ∧ Off (bkV A) w w' ∧ (∀ y ∈ bkV A', y ∈ bkV A ∨ y = w.heap.size ∧ y < w'.heap.size) := by
  have hle := hown.le
  by_cases hm0 : 0 < m
  · cases S with
    | none => have := hs.none_ rfl; omega
    | some ad => exact append_gs hu hi hz0 hz1 hz2 hzc hown ad m cm ts hs.len (hs.at_ ad rfl) hs.one hm0 hb hn hB
  · obtain rfl : m = 0 := by omega
    obtain rfl : ts = [] := List.eq_nil_of_length_eq_zero (by rw [hs.len]; simp)
    refine ⟨A, c, w, fun ty => ?_, by simpa using hown, Off.refl _ _, fun y hy => .inl hy⟩
    cases S with
    | none =>
      obtain rfl := hcm rfl
      cases A with
      | none =>
        obtain ⟨rfl, rfl⟩ := hown.none_ rfl
        simp [Builtin.append_, run_underlying hu, sizeOf, typeInfo, hi, Builtin.lenOf, Builtin.firstCells]
      | some b => simp [Builtin.append_, run_underlying hu, sizeOf, typeInfo, hi, Builtin.lenOf, Builtin.firstCells, hle, storeCells]
    | some ad =>
      have hf := run_firstCells_some (P := P) w i0.size 0 ad 0 cm [] (by simp) (fun j u hj => by simp at hj)
      cases A with
      | none =>
        obtain ⟨rfl, rfl⟩ := hown.none_ rfl
        simp [Builtin.append_, run_underlying hu, sizeOf, typeInfo, hi, Builtin.lenOf, hf]
      | some b => simp [Builtin.append_, run_underlying hu, sizeOf, typeInfo, hi, Builtin.lenOf, hle, hf, storeCells]
theorem wpList_append_s {P : Program} {ops : Array Oper} {rest : List Oper} {o : Oper} {a : Act} {Q : Exit → Act → World → Prop} {Ts T : TypeId} {i0 : TypeInfo} {z : Value} {bts : Nat}
    (hu : P.underlying Ts = some (.slice T)) (hi : P.info? T = some i0) (hz0 : i0.zero = some z) (hz1 : i0.size = k) (hz2 : i0.bytes = bts) (hzc : z.cells.size = k) (hgd : o.guard = none) (s x : Operand)
    (ho : o.op = .call { callee := .builtin .append, args := #[s, x], argTypes := #[Ts, Ts] })
    (hs : a.eval s = .slice A n c) (hown : OwnS w B k A n c vs) (S : Option Addr) (m cm : Nat) (ts : List Value) (hx : a.eval x = .slice S m cm) (hsrc : SrcS w k S m ts) (hcm : S = none → cm = 0) (hb : 1 ≤ bts) (hn : (n + m) * bts ≤ 140737488355328) (hB : B ≤ w.heap.size)
    (h : ∀ A' c' w', OwnS w' B k A' (n + m) c' (vs ++ ts) → Off (bkV A) w w' → (∀ y ∈ bkV A', y ∈ bkV A ∨ y = w.heap.size ∧ y < w'.heap.size) → wpList P ops Q rest (a.put o.dst (.slice A' (n + m) c')) w') : wpList P ops Q (o :: rest) a w := by
  refine wpList_plain hgd fun K hK => ?_
  obtain ⟨A', c', w', hr, k1, k2, k3⟩ := append_alls hu hi hz0 hz1 hz2 hzc hown S m cm ts hsrc hcm hb hn hB
  have hr' := hr o.type
  unfold Oper.wp execOp
  simp only [ho, resolve, invoke, builtin, Sem.run_bind, Sem.run_pure, Result.andThen_ok, List.map_toArray, List.map_cons, List.map_nil, hs, hx, hr']
  exact hK _ _ (h A' c' w' k1 k2 k3)
theorem step_append_s {P : Program} {ops : Array Oper} {o : Oper} {a : Act} {K : Act → World → Prop} {Q : Exit → Act → World → Prop} {E : Prop} {Ts T : TypeId} {i0 : TypeInfo} {z : Value} {bts : Nat}
    (hu : P.underlying Ts = some (.slice T)) (hi : P.info? T = some i0) (hz0 : i0.zero = some z) (hz1 : i0.size = k) (hz2 : i0.bytes = bts) (hzc : z.cells.size = k) (hgd : o.guard = none) (s x : Operand)
    (ho : o.op = .call { callee := .builtin .append, args := #[s, x], argTypes := #[Ts, Ts] })
    (hs : a.eval s = .slice A n c) (hown : OwnS w B k A n c vs) (S : Option Addr) (m cm : Nat) (ts : List Value) (hx : a.eval x = .slice S m cm) (hsrc : SrcS w k S m ts) (hcm : S = none → cm = 0) (hb : 1 ≤ bts) (hn : (n + m) * bts ≤ 140737488355328) (hB : B ≤ w.heap.size)
    (h : ∀ A' c' w', OwnS w' B k A' (n + m) c' (vs ++ ts) → Off (bkV A) w w' → (∀ y ∈ bkV A', y ∈ bkV A ∨ y = w.heap.size ∧ y < w'.heap.size) → K (a.put o.dst (.slice A' (n + m) c')) w') :
    if Region.wanted o (yielded ops a.tmps) = true then Oper.wp P o a w K Q else E := by
  have hw : Region.wanted o (yielded ops a.tmps) = true := by simp [Region.wanted, hgd]
  rw [if_pos hw]
  obtain ⟨A', c', w', hr, k1, k2, k3⟩ := append_alls hu hi hz0 hz1 hz2 hzc hown S m cm ts hsrc hcm hb hn hB
  have hr' := hr o.type
  unfold Oper.wp execOp
  simp only [ho, resolve, invoke, builtin, Sem.run_bind, Sem.run_pure, Result.andThen_ok, List.map_toArray, List.map_cons, List.map_nil, hs, hx, hr']
  exact h A' c' w' k1 k2 k3
end
end Go.Proofs.YtifldnkcheobhaaDoor
