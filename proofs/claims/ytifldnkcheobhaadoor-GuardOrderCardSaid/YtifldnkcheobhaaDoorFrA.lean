/- Own lists: appends of what lies anywhere, of something or nothing. -/
import Derived.Test.YtifldnkcheobhaaDoorOwV
import Derived.Deep.RegionLaw
import Derived.Deep.DeepAppendWide
namespace Go.Proofs.YtifldnkcheobhaaDoor
open Go.RowKit
set_option maxRecDepth 100000
set_option linter.unusedVariables false
section
variable {w w' : World} {B B' n c : Nat} {A : Option Addr} {vs : List Value} {S : List Nat}
/-- An append of some. -/
theorem append_g {P : Program} {Ts T : TypeId} {i0 : TypeInfo} {z : Value} {bts : Nat} (hu : P.underlying Ts = some (.slice T)) (hi : P.info? T = some i0) (hz0 : i0.zero = some z) (hz1 : i0.size = 1) (hz2 : i0.bytes = bts) (hzc : z.cells.size = 1)
    (hown : OwnV w B A n c vs) (ad : Addr) (m cm : Nat) (ts : List Value) (hm : ts.length = m) (hnews : ∀ j u, ts[j]? = some u → w.cell? (ad.add j) = some u) (h1 : ∀ u ∈ ts, u.oneCell' = true) (hm0 : 0 < m) (hb : 1 ≤ bts) (hn : (n + m) * bts ≤ 140737488355328) (hB : B ≤ w.heap.size) :
    ∃ A' c' w', (∀ ty, (Builtin.append_ #[Ts, Ts] ty #[.slice A n c, .slice (some ad) m cm]).run P w = .ok (.slice A' (n + m) c') w') ∧ OwnV w' B A' (n + m) c' (vs ++ ts) ∧ Off (bkV A) w w' ∧ (∀ y ∈ bkV A', y ∈ bkV A ∨ y = w.heap.size ∧ y < w'.heap.size) := by
  have hcp := hown.cap
  have hle := hown.le
  have hzl := hown.len
  unfold maxLen at hcp
  have hnm : n + m ≤ 140737488355328 := Nat.le_trans (Nat.le_mul_of_pos_right _ hb) hn
  have hl : ts.length = m * i0.size := by rw [hz1, hm]; omega
  have grown : ∀ (old : Nat), n + m ≤ grownCap w (n + m) old T ∧ grownCap w (n + m) old T ≤ maxLen ∧
      OwnV (w.drew.alloc (.cells (vs.toArray ++ ts.toArray ++ Builtin.zeroCells z.cells (grownCap w (n + m) old T - (n + m))) T)) B (some ⟨w.heap.size, 0, none⟩) (n + m) (grownCap w (n + m) old T) (vs ++ ts) := by
    intro old
    have g1 := grownCap_ge w (n + m) old T
    have g2 := grownCap_le_maxLen w (n + m) old T (by unfold maxLen; omega)
    refine ⟨g1, g2, ⟨by simp [hzl, hm], g1, g2, fun e => by simp at e, fun b hb => ?_⟩⟩
    injection hb with hb
    subst hb
    have hblk : (w.drew.alloc (.cells (vs.toArray ++ ts.toArray ++ Builtin.zeroCells z.cells (grownCap w (n + m) old T - (n + m))) T)).heap[w.heap.size]? = _ := heap_alloc_new w.drew _
    refine ⟨rfl, hB, by simp, fun j hj => ⟨?_, frozen_of_row _ _ _ _ _ hblk⟩, fun j v hj => ?_⟩
    · show (World.cell? _ ⟨w.heap.size, 0 + j, none⟩).isSome = true
      rw [Nat.zero_add, cell_of_row _ _ _ _ _ (0, 0) hblk]
      rw [Array.getElem?_eq_getElem (by simp [size_zeroCells, hzl, hm, hzc]; omega)]
      rfl
    · show World.cell? _ ⟨w.heap.size, 0 + j, none⟩ = _
      rw [Nat.zero_add, cell_of_row _ _ _ _ _ (0, 0) hblk, ← Array.getElem?_toList]
      simp only [Array.toList_append]
      have hjl : j < (vs ++ ts).length := (List.getElem?_eq_some_iff.1 hj).1
      rw [List.getElem?_append_left (by simpa using hjl)]
      exact hj
  cases A with
  | none =>
    obtain ⟨rfl, rfl⟩ := hown.none_ rfl
    obtain rfl : vs = [] := List.eq_nil_of_length_eq_zero hzl
    obtain ⟨g1, g2, g3⟩ := grown 0
    simp only [Nat.zero_add] at g1 g2 g3 hn hnm
    refine ⟨_, _, _, fun ty => by simpa using run_append_nil (P := P) w Ts ty T i0 z hu hi hz0 ad m cm _ hl hnews (by omega) (by omega) (by rw [hz2]; omega), ?_, ?_, ?_⟩
    · simpa using g3
    · exact ⟨rfl, rfl, rfl, by simp, fun k hk _ => heap_alloc_old w.drew _ hk⟩
    · intro y hy; simp [bkV] at hy; exact .inr ⟨hy, by rw [hy]; simp⟩
  | some b =>
    obtain ⟨b1, b2, b3, b4, b5⟩ := hown.at_ b rfl
    obtain ⟨bb, bo, bs⟩ := b
    simp only [Addr.mk.injEq, true_and] at b1
    subst b1
    simp only at b2 b3 b4 b5
    by_cases hroom : n + m ≤ c
    · refine ⟨some ⟨bb, bo, none⟩, c, w.setCells bb (bo + n) ts, fun ty => ?_, ?_, ?_, ?_⟩
      · have hf := run_firstCells_some (P := P) w i0.size m ad m cm _ hl hnews
        have hst := run_storeCells_cells (P := P) bb (bo + n) ts 0 w (fun j hj => by
          have := (b4 (n + j) (by omega)).1
          rwa [show bo + n + 0 + j = bo + (n + j) by omega]) (fun j hj => by
          have := (b4 (n + j) (by omega)).2
          rwa [show bo + n + 0 + j = bo + (n + j) by omega]) h1
        have ea : (⟨bb, bo, none⟩ : Addr).add (n * i0.size) = ⟨bb, bo + n, none⟩ := by rw [hz1, Nat.mul_one, add_litV]
        simp [Builtin.append_, run_underlying hu, sizeOf, typeInfo, hi, Builtin.lenOf, hroom, hf, ea, hst]
      · refine ⟨by simp [hzl, hm], hroom, hown.cap, fun e => by simp at e, fun b hb => ?_⟩
        injection hb with hb
        subst hb
        refine ⟨rfl, b2, ?_, fun j hj => ?_, fun j v hj => ?_⟩
        · exact Nat.lt_of_lt_of_le b3 ((Off.refl [bb] w).setCells (by simp) ts (bo + n)).size
        · show (World.cell? _ ⟨bb, bo + j, none⟩).isSome = true ∧ World.frozen? _ ⟨bb, bo + j, none⟩ = false
          refine ⟨?_, by rw [World.frozen?_setCells]; exact (b4 j hj).2⟩
          rcases Nat.lt_or_ge j n with h | h
          · rw [World.cell?_setCells_out _ _ _ _ _ (fun _ _ => .inl (by simp; omega))]; exact (b4 j hj).1
          · rcases Nat.lt_or_ge j (n + m) with h' | h'
            · have := World.cell?_setCells_in bb ts (bo + n) w (fun k hk => by
                have := (b4 (n + k) (by omega)).1
                rwa [show bo + n + k = bo + (n + k) by omega]) (j - n) (by omega)
              rw [show bo + n + (j - n) = bo + j by omega] at this
              rw [this]; rfl
            · rw [World.cell?_setCells_out _ _ _ _ _ (fun _ _ => .inr (by simp; omega))]; exact (b4 j hj).1
        · show World.cell? _ ⟨bb, bo + j, none⟩ = _
          have hjl : j < (vs ++ ts).length := (List.getElem?_eq_some_iff.1 hj).1
          rw [List.length_append, hzl, hm] at hjl
          rcases Nat.lt_or_ge j n with h | h
          · rw [World.cell?_setCells_out _ _ _ _ _ (fun _ _ => .inl (by simp; omega))]
            rw [List.getElem?_append_left (by omega)] at hj
            exact b5 j v hj
          · have := World.cell?_setCells_in bb ts (bo + n) w (fun k hk => by
              have := (b4 (n + k) (by omega)).1
              rwa [show bo + n + k = bo + (n + k) by omega]) (j - n) (by omega)
            rw [show bo + n + (j - n) = bo + j by omega] at this
            rw [this]
            rw [List.getElem?_append_right (by omega), hzl, List.getElem?_eq_getElem (by omega)] at hj
            exact hj
      · exact (Off.refl _ _).setCells (by simp [bkV]) _ _
      · intro y hy; exact .inl hy
    · obtain ⟨g1, g2, g3⟩ := grown c
      have hold : ∀ j v, vs[j]? = some v → w.cell? ((⟨bb, bo, none⟩ : Addr).add j) = some v := fun j v hv => by
        rw [add_litV]; exact b5 j v hv
      refine ⟨_, _, _, fun ty => run_append_grow (P := P) w Ts ty T i0 z hu hi hz0 ⟨bb, bo, none⟩ n c vs (by rw [hz1, hzl]; omega) hold ad m cm _ hl hnews (by omega) (by omega) (growslice_fits (by omega) (by rw [hz2]; exact hn)), g3, ⟨rfl, rfl, rfl, by simp, fun k hk _ => heap_alloc_old w.drew _ hk⟩, ?_⟩
      intro y hy; simp [bkV] at hy; exact .inr ⟨hy, by rw [hy]; simp⟩

/-- What is read by an append: cells, wherever they lie; or nothing. -/
structure SrcV (w : World) (S : Option Addr) (m : Nat) (ts : List Value) : Prop where
  len : ts.length = m
  none_ : S = none → m = 0
  at_ : ∀ ad, S = some ad → ∀ j u, ts[j]? = some u → w.cell? (ad.add j) = some u
  one : ∀ u ∈ ts, u.oneCell' = true

theorem append_all {P : Program} {Ts T : TypeId} {i0 : TypeInfo} {z : Value} {bts : Nat} (hu : P.underlying Ts = some (.slice T)) (hi : P.info? T = some i0) (hz0 : i0.zero = some z) (hz1 : i0.size = 1) (hz2 : i0.bytes = bts) (hzc : z.cells.size = 1)
    (hown : OwnV w B A n c vs) (S : Option Addr) (m cm : Nat) (ts : List Value) (hs : SrcV w S m ts) (hcm : S = none → cm = 0) (hb : 1 ≤ bts) (hn : (n + m) * bts ≤ 140737488355328) (hB : B ≤ w.heap.size) :
    ∃ A' c' w', (∀ ty, (Builtin.append_ #[Ts, Ts] ty #[.slice A n c, .slice S m cm]).run P w = .ok (.slice A' (n + m) c') w') ∧ OwnV w' B A' (n + m) c' (vs ++ ts) ∧ Off (bkV A) w w' ∧ (∀ y ∈ bkV A', y ∈ bkV A ∨ y = w.heap.size ∧ y < w'.heap.size) := by
  have hle := hown.le
  by_cases hm0 : 0 < m
  · cases S with
    | none => have := hs.none_ rfl; omega
    | some ad => exact append_g hu hi hz0 hz1 hz2 hzc hown ad m cm ts hs.len (hs.at_ ad rfl) hs.one hm0 hb hn hB
  · obtain rfl : m = 0 := by omega
    obtain rfl : ts = [] := List.eq_nil_of_length_eq_zero hs.len
    refine ⟨A, c, w, fun ty => ?_, by simpa using hown, Off.refl _ _, fun y hy => .inl hy⟩
    cases S with
    | none =>
      obtain rfl := hcm rfl
      cases A with
      | none =>
        obtain ⟨rfl, rfl⟩ := hown.none_ rfl
        simp [Builtin.append_, run_underlying hu, sizeOf, typeInfo, hi, Builtin.lenOf, Builtin.firstCells]
      | some b => simp [Builtin.append_, run_underlying hu, sizeOf, typeInfo, hi, Builtin.lenOf, Builtin.firstCells, hle, storeCells]
    | some ad =>
      have hf := run_firstCells_some (P := P) w i0.size 0 ad 0 cm [] (by simp) (fun j u hj => by simp at hj)
      cases A with
      | none =>
        obtain ⟨rfl, rfl⟩ := hown.none_ rfl
        simp [Builtin.append_, run_underlying hu, sizeOf, typeInfo, hi, Builtin.lenOf, hf]
      | some b => simp [Builtin.append_, run_underlying hu, sizeOf, typeInfo, hi, Builtin.lenOf, hle, hf, storeCells]
theorem wpList_append_a {P : Program} {ops : Array Oper} {rest : List Oper} {o : Oper} {a : Act} {Q : Exit → Act → World → Prop} {Ts T : TypeId} {i0 : TypeInfo} {z : Value} {bts : Nat}
    (hu : P.underlying Ts = some (.slice T)) (hi : P.info? T = some i0) (hz0 : i0.zero = some z) (hz1 : i0.size = 1) (hz2 : i0.bytes = bts) (hzc : z.cells.size = 1) (hgd : o.guard = none) (s x : Operand)
    (ho : o.op = .call { callee := .builtin .append, args := #[s, x], argTypes := #[Ts, Ts] })
    (hs : a.eval s = .slice A n c) (hown : OwnV w B A n c vs) (S : Option Addr) (m cm : Nat) (ts : List Value) (hx : a.eval x = .slice S m cm) (hsrc : SrcV w S m ts) (hcm : S = none → cm = 0) (hb : 1 ≤ bts) (hn : (n + m) * bts ≤ 140737488355328) (hB : B ≤ w.heap.size)
    (h : ∀ A' c' w', OwnV w' B A' (n + m) c' (vs ++ ts) → Off (bkV A) w w' → (∀ y ∈ bkV A', y ∈ bkV A ∨ y = w.heap.size ∧ y < w'.heap.size) → wpList P ops Q rest (a.put o.dst (.slice A' (n + m) c')) w') : wpList P ops Q (o :: rest) a w := by
  refine wpList_plain hgd fun K hK => ?_
  obtain ⟨A', c', w', hr, k1, k2, k3⟩ := append_all hu hi hz0 hz1 hz2 hzc hown S m cm ts hsrc hcm hb hn hB
  have hr' := hr o.type
  unfold Oper.wp execOp
  simp only [ho, resolve, invoke, builtin, Sem.run_bind, Sem.run_pure, Result.andThen_ok, List.map_toArray, List.map_cons, List.map_nil, hs, hx, hr']
  exact hK _ _ (h A' c' w' k1 k2 k3)
theorem step_append_a {P : Program} {ops : Array Oper} {o : Oper} {a : Act} {K : Act → World → Prop} {Q : Exit → Act → World → Prop} {E : Prop} {Ts T : TypeId} {i0 : TypeInfo} {z : Value} {bts : Nat}
    (hu : P.underlying Ts = some (.slice T)) (hi : P.info? T = some i0) (hz0 : i0.zero = some z) (hz1 : i0.size = 1) (hz2 : i0.bytes = bts) (hzc : z.cells.size = 1) (hgd : o.guard = none) (s x : Operand)
    (ho : o.op = .call { callee := .builtin .append, args := #[s, x], argTypes := #[Ts, Ts] })
    (hs : a.eval s = .slice A n c) (hown : OwnV w B A n c vs) (S : Option Addr) (m cm : Nat) (ts : List Value) (hx : a.eval x = .slice S m cm) (hsrc : SrcV w S m ts) (hcm : S = none → cm = 0) (hb : 1 ≤ bts) (hn : (n + m) * bts ≤ 140737488355328) (hB : B ≤ w.heap.size)
    (h : ∀ A' c' w', OwnV w' B A' (n + m) c' (vs ++ ts) → Off (bkV A) w w' → (∀ y ∈ bkV A', y ∈ bkV A ∨ y = w.heap.size ∧ y < w'.heap.size) → K (a.put o.dst (.slice A' (n + m) c')) w') :
    if Region.wanted o (yielded ops a.tmps) = true then Oper.wp P o a w K Q else E := by
  have hw : Region.wanted o (yielded ops a.tmps) = true := by simp [Region.wanted, hgd]
  rw [if_pos hw]
  obtain ⟨A', c', w', hr, k1, k2, k3⟩ := append_all hu hi hz0 hz1 hz2 hzc hown S m cm ts hsrc hcm hb hn hB
  have hr' := hr o.type
  unfold Oper.wp execOp
  simp only [ho, resolve, invoke, builtin, Sem.run_bind, Sem.run_pure, Result.andThen_ok, List.map_toArray, List.map_cons, List.map_nil, hs, hx, hr']
  exact h A' c' w' k1 k2 k3
end

section
variable {w w' : World} {B B' n c : Nat} {A : Option Addr} {xs : List Nat}
end
section
variable {w w' : World} {B B' n c : Nat} {A : Option Addr} {vs : List Value} {S : List Nat}
/-- An append of some. -/
theorem append_gw {P : Program} {Ts T : TypeId} {i0 : TypeInfo} {z : Value} {bts : Nat} (hu : P.underlying Ts = some (.slice T)) (hi : P.info? T = some i0) (hz0 : i0.zero = some z) (hz1 : i0.size = 1) (hz2 : i0.bytes = bts) (hzc : z.cells.size = 1)
    (hown : OwnV w B A n c vs) (ad : Addr) (m cm : Nat) (ts : List Value) (hm : ts.length = m) (hnews : ∀ j u, ts[j]? = some u → w.cell? (ad.add j) = some u) (h1 : ∀ u ∈ ts, u.oneCell' = true) (hm0 : 0 < m) (hb : bts = 1) (hn : (n + m) * bts ≤ 211106232532992) (hB : B ≤ w.heap.size) :
    ∃ A' c' w', (∀ ty, (Builtin.append_ #[Ts, Ts] ty #[.slice A n c, .slice (some ad) m cm]).run P w = .ok (.slice A' (n + m) c') w') ∧ OwnV w' B A' (n + m) c' (vs ++ ts) ∧ Off (bkV A) w w' ∧ (∀ y ∈ bkV A', y ∈ bkV A ∨ y = w.heap.size ∧ y < w'.heap.size) := by
  have hcp := hown.cap
  have hle := hown.le
  have hzl := hown.len
  unfold maxLen at hcp
  have hnm : n + m ≤ 211106232532992 := Nat.le_trans (Nat.le_mul_of_pos_right _ (by omega)) hn
  have hl : ts.length = m * i0.size := by rw [hz1, hm]; omega
  have grown : ∀ (old : Nat), n + m ≤ grownCap w (n + m) old T ∧ grownCap w (n + m) old T ≤ maxLen ∧
      OwnV (w.drew.alloc (.cells (vs.toArray ++ ts.toArray ++ Builtin.zeroCells z.cells (grownCap w (n + m) old T - (n + m))) T)) B (some ⟨w.heap.size, 0, none⟩) (n + m) (grownCap w (n + m) old T) (vs ++ ts) := by
    intro old
    have g1 := grownCap_ge w (n + m) old T
    have g2 := grownCap_le_maxLen w (n + m) old T (by unfold maxLen; omega)
    refine ⟨g1, g2, ⟨by simp [hzl, hm], g1, g2, fun e => by simp at e, fun b hb => ?_⟩⟩
    injection hb with hb
    subst hb
    have hblk : (w.drew.alloc (.cells (vs.toArray ++ ts.toArray ++ Builtin.zeroCells z.cells (grownCap w (n + m) old T - (n + m))) T)).heap[w.heap.size]? = _ := heap_alloc_new w.drew _
    refine ⟨rfl, hB, by simp, fun j hj => ⟨?_, frozen_of_row _ _ _ _ _ hblk⟩, fun j v hj => ?_⟩
    · show (World.cell? _ ⟨w.heap.size, 0 + j, none⟩).isSome = true
      rw [Nat.zero_add, cell_of_row _ _ _ _ _ (0, 0) hblk]
      rw [Array.getElem?_eq_getElem (by simp [size_zeroCells, hzl, hm, hzc]; omega)]
      rfl
    · show World.cell? _ ⟨w.heap.size, 0 + j, none⟩ = _
      rw [Nat.zero_add, cell_of_row _ _ _ _ _ (0, 0) hblk, ← Array.getElem?_toList]
      simp only [Array.toList_append]
      have hjl : j < (vs ++ ts).length := (List.getElem?_eq_some_iff.1 hj).1
      rw [List.getElem?_append_left (by simpa using hjl)]
      exact hj
  cases A with
  | none =>
    obtain ⟨rfl, rfl⟩ := hown.none_ rfl
    obtain rfl : vs = [] := List.eq_nil_of_length_eq_zero hzl
    obtain ⟨g1, g2, g3⟩ := grown 0
    simp only [Nat.zero_add] at g1 g2 g3 hn hnm
    refine ⟨_, _, _, fun ty => by simpa using run_append_nil (P := P) w Ts ty T i0 z hu hi hz0 ad m cm _ hl hnews (by omega) (by omega) (by rw [hz2]; omega), ?_, ?_, ?_⟩
    · simpa using g3
    · exact ⟨rfl, rfl, rfl, by simp, fun k hk _ => heap_alloc_old w.drew _ hk⟩
    · intro y hy; simp [bkV] at hy; exact .inr ⟨hy, by rw [hy]; simp⟩
  | some b =>
    obtain ⟨b1, b2, b3, b4, b5⟩ := hown.at_ b rfl
    obtain ⟨bb, bo, bs⟩ := b
    simp only [Addr.mk.injEq, true_and] at b1
    subst b1
    simp only at b2 b3 b4 b5
    by_cases hroom : n + m ≤ c
    · refine ⟨some ⟨bb, bo, none⟩, c, w.setCells bb (bo + n) ts, fun ty => ?_, ?_, ?_, ?_⟩
      · have hf := run_firstCells_some (P := P) w i0.size m ad m cm _ hl hnews
        have hst := run_storeCells_cells (P := P) bb (bo + n) ts 0 w (fun j hj => by
          have := (b4 (n + j) (by omega)).1
          rwa [show bo + n + 0 + j = bo + (n + j) by omega]) (fun j hj => by
          have := (b4 (n + j) (by omega)).2
          rwa [show bo + n + 0 + j = bo + (n + j) by omega]) h1
        have ea : (⟨bb, bo, none⟩ : Addr).add (n * i0.size) = ⟨bb, bo + n, none⟩ := by rw [hz1, Nat.mul_one, add_litV]
        simp [Builtin.append_, run_underlying hu, sizeOf, typeInfo, hi, Builtin.lenOf, hroom, hf, ea, hst]
      · refine ⟨by simp [hzl, hm], hroom, hown.cap, fun e => by simp at e, fun b hb => ?_⟩
        injection hb with hb
        subst hb
        refine ⟨rfl, b2, ?_, fun j hj => ?_, fun j v hj => ?_⟩
        · exact Nat.lt_of_lt_of_le b3 ((Off.refl [bb] w).setCells (by simp) ts (bo + n)).size
        · show (World.cell? _ ⟨bb, bo + j, none⟩).isSome = true ∧ World.frozen? _ ⟨bb, bo + j, none⟩ = false
          refine ⟨?_, by rw [World.frozen?_setCells]; exact (b4 j hj).2⟩
          rcases Nat.lt_or_ge j n with h | h
          · rw [World.cell?_setCells_out _ _ _ _ _ (fun _ _ => .inl (by simp; omega))]; exact (b4 j hj).1
          · rcases Nat.lt_or_ge j (n + m) with h' | h'
            · have := World.cell?_setCells_in bb ts (bo + n) w (fun k hk => by
                have := (b4 (n + k) (by omega)).1
                rwa [show bo + n + k = bo + (n + k) by omega]) (j - n) (by omega)
              rw [show bo + n + (j - n) = bo + j by omega] at this
              rw [this]; rfl
            · rw [World.cell?_setCells_out _ _ _ _ _ (fun _ _ => .inr (by simp; omega))]; exact (b4 j hj).1
        · show World.cell? _ ⟨bb, bo + j, none⟩ = _
          have hjl : j < (vs ++ ts).length := (List.getElem?_eq_some_iff.1 hj).1
          rw [List.length_append, hzl, hm] at hjl
          rcases Nat.lt_or_ge j n with h | h
          · rw [World.cell?_setCells_out _ _ _ _ _ (fun _ _ => .inl (by simp; omega))]
            rw [List.getElem?_append_left (by omega)] at hj
            exact b5 j v hj
          · have := World.cell?_setCells_in bb ts (bo + n) w (fun k hk => by
              have := (b4 (n + k) (by omega)).1
              rwa [show bo + n + k = bo + (n + k) by omega]) (j - n) (by omega)
            rw [show bo + n + (j - n) = bo + j by omega] at this
            rw [this]
            rw [List.getElem?_append_right (by omega), hzl, List.getElem?_eq_getElem (by omega)] at hj
            exact hj
      · exact (Off.refl _ _).setCells (by simp [bkV]) _ _
      · intro y hy; exact .inl hy
    · obtain ⟨g1, g2, g3⟩ := grown c
      have hold : ∀ j v, vs[j]? = some v → w.cell? ((⟨bb, bo, none⟩ : Addr).add j) = some v := fun j v hv => by
        rw [add_litV]; exact b5 j v hv
      refine ⟨_, _, _, fun ty => run_append_grow (P := P) w Ts ty T i0 z hu hi hz0 ⟨bb, bo, none⟩ n c vs (by rw [hz1, hzl]; omega) hold ad m cm _ hl hnews (by omega) (by omega) (growslice_fits_wide (by omega) (by rw [hz2, hb]; rw [hb] at hn; omega)), g3, ⟨rfl, rfl, rfl, by simp, fun k hk _ => heap_alloc_old w.drew _ hk⟩, ?_⟩
      intro y hy; simp [bkV] at hy; exact .inr ⟨hy, by rw [hy]; simp⟩
theorem append_allw {P : Program} {Ts T : TypeId} {i0 : TypeInfo} {z : Value} {bts : Nat} (hu : P.underlying Ts = some (.slice T)) (hi : P.info? T = some i0) (hz0 : i0.zero = some z) (hz1 : i0.size = 1) (hz2 : i0.bytes = bts) (hzc : z.cells.size = 1)
    (hown : OwnV w B A n c vs) (S : Option Addr) (m cm : Nat) (ts : List Value) (hs : SrcV w S m ts) (hcm : S = none → cm = 0) (hb : bts = 1) (hn : (n + m) * bts ≤ 211106232532992) (hB : B ≤ w.heap.size) :
    ∃ A' c' w', (∀ ty, (Builtin.append_ #[Ts, Ts] ty #[.slice A n c, .slice S m cm]).run P w = .ok (.slice A' (n + m) c') w') ∧ OwnV w' B A' (n + m) c' (vs ++ ts) ∧ Off (bkV A) w w' ∧ (∀ y ∈ bkV A', y ∈ bkV A ∨ y = w.heap.size ∧ y < w'.heap.size) := by
  have hle := hown.le
  by_cases hm0 : 0 < m
  · cases S with
    | none => have := hs.none_ rfl; omega
    | some ad => exact append_gw hu hi hz0 hz1 hz2 hzc hown ad m cm ts hs.len (hs.at_ ad rfl) hs.one hm0 hb hn hB
  · obtain rfl : m = 0 := by omega
    obtain rfl : ts = [] := List.eq_nil_of_length_eq_zero hs.len
    refine ⟨A, c, w, fun ty => ?_, by simpa using hown, Off.refl _ _, fun y hy => .inl hy⟩
    cases S with
    | none =>
      obtain rfl := hcm rfl
      cases A with
      | none =>
        obtain ⟨rfl, rfl⟩ := hown.none_ rfl
        simp [Builtin.append_, run_underlying hu, sizeOf, typeInfo, hi, Builtin.lenOf, Builtin.firstCells]
      | some b => simp [Builtin.append_, run_underlying hu, sizeOf, typeInfo, hi, Builtin.lenOf, Builtin.firstCells, hle, storeCells]
    | some ad =>
      have hf := run_firstCells_some (P := P) w i0.size 0 ad 0 cm [] (by simp) (fun j u hj => by simp at hj)
      cases A with
      | none =>
        obtain ⟨rfl, rfl⟩ := hown.none_ rfl
        simp [Builtin.append_, run_underlying hu, sizeOf, typeInfo, hi, Builtin.lenOf, hf]
      | some b => simp [Builtin.append_, run_underlying hu, sizeOf, typeInfo, hi, Builtin.lenOf, hle, hf, storeCells]
theorem wpList_append_w {P : Program} {ops : Array Oper} {rest : List Oper} {o : Oper} {a : Act} {Q : Exit → Act → World → Prop} {Ts T : TypeId} {i0 : TypeInfo} {z : Value} {bts : Nat}
    (hu : P.underlying Ts = some (.slice T)) (hi : P.info? T = some i0) (hz0 : i0.zero = some z) (hz1 : i0.size = 1) (hz2 : i0.bytes = bts) (hzc : z.cells.size = 1) (hgd : o.guard = none) (s x : Operand)
    (ho : o.op = .call { callee := .builtin .append, args := #[s, x], argTypes := #[Ts, Ts] })
    (hs : a.eval s = .slice A n c) (hown : OwnV w B A n c vs) (S : Option Addr) (m cm : Nat) (ts : List Value) (hx : a.eval x = .slice S m cm) (hsrc : SrcV w S m ts) (hcm : S = none → cm = 0) (hb : bts = 1) (hn : (n + m) * bts ≤ 211106232532992) (hB : B ≤ w.heap.size)
    (h : ∀ A' c' w', OwnV w' B A' (n + m) c' (vs ++ ts) → Off (bkV A) w w' → (∀ y ∈ bkV A', y ∈ bkV A ∨ y = w.heap.size ∧ y < w'.heap.size) → wpList P ops Q rest (a.put o.dst (.slice A' (n + m) c')) w') : wpList P ops Q (o :: rest) a w := by
  refine wpList_plain hgd fun K hK => ?_
  obtain ⟨A', c', w', hr, k1, k2, k3⟩ := append_allw hu hi hz0 hz1 hz2 hzc hown S m cm ts hsrc hcm hb hn hB
  have hr' := hr o.type
  unfold Oper.wp execOp
  simp only [ho, resolve, invoke, builtin, Sem.run_bind, Sem.run_pure, Result.andThen_ok, List.map_toArray, List.map_cons, List.map_nil, hs, hx, hr']
  exact hK _ _ (h A' c' w' k1 k2 k3)
theorem step_append_w {P : Program} {ops : Array Oper} {o : Oper} {a : Act} {K : Act → World → Prop} {Q : Exit → Act → World → Prop} {E : Prop} {Ts T : TypeId} {i0 : TypeInfo} {z : Value} {bts : Nat}
    (hu : P.underlying Ts = some (.slice T)) (hi : P.info? T = some i0) (hz0 : i0.zero = some z) (hz1 : i0.size = 1) (hz2 : i0.bytes = bts) (hzc : z.cells.size = 1) (hgd : o.guard = none) (s x : Operand)
    (ho : o.op = .call { callee := .builtin .append, args := #[s, x], argTypes := #[Ts, Ts] })
    (hs : a.eval s = .slice A n c) (hown : OwnV w B A n c vs) (S : Option Addr) (m cm : Nat) (ts : List Value) (hx : a.eval x = .slice S m cm) (hsrc : SrcV w S m ts) (hcm : S = none → cm = 0) (hb : bts = 1) (hn : (n + m) * bts ≤ 211106232532992) (hB : B ≤ w.heap.size)
    (h : ∀ A' c' w', OwnV w' B A' (n + m) c' (vs ++ ts) → Off (bkV A) w w' → (∀ y ∈ bkV A', y ∈ bkV A ∨ y = w.heap.size ∧ y < w'.heap.size) → K (a.put o.dst (.slice A' (n + m) c')) w') :
    if Region.wanted o (yielded ops a.tmps) = true then Oper.wp P o a w K Q else E := by
  have hw : Region.wanted o (yielded ops a.tmps) = true := by simp [Region.wanted, hgd]
  rw [if_pos hw]
  obtain ⟨A', c', w', hr, k1, k2, k3⟩ := append_allw hu hi hz0 hz1 hz2 hzc hown S m cm ts hsrc hcm hb hn hB
  have hr' := hr o.type
  unfold Oper.wp execOp
  simp only [ho, resolve, invoke, builtin, Sem.run_bind, Sem.run_pure, Result.andThen_ok, List.map_toArray, List.map_cons, List.map_nil, hs, hx, hr']
  exact h A' c' w' k1 k2 k3
end
end Go.Proofs.YtifldnkcheobhaaDoor
