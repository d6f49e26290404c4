/- EpochPlays: the document's Epochs in memory, its calls (first part). -/
import Derived.Test.YtpjgpiiibgogeaaEpY
import Derived.Test.YtpjgpiiibgogeaaPkEArg
import Derived.BigQuiet

/- Epochs: which call is under way; what its step does to the pin. -/
namespace Go.Proofs.Ytpjgpiiibgogeaa
open Go.RowKit
set_option maxRecDepth 100000
set_option linter.unusedVariables false

theorem u64e (x : Int) : IntKind.u64.wrap x = x % 18446744073709551616 := by simp [IntKind.wrap, IntKind.bits, IntKind.signed]
def who4 (x : Int) : Nat := (x % 18446744073709551616 % 4).toNat
theorem who4_lt (x : Int) : who4 x < 4 := by unfold who4; omega
theorem who4_eq (x : Int) : (IntKind.u64.wrap x).tmod 4 = (who4 x : Int) := by
  rw [u64e, Int.tmod_eq_emod_of_nonneg (by omega)]
  unfold who4; omega
theorem eop5_eq (op : Nat) : ∃ o : Nat, 1 ≤ o ∧ o ≤ 5 ∧ 1 + (op : Int) % 5 = (o : Int) := ⟨1 + op % 5, by omega, by omega, by omega⟩
/-- Which call is under way. -/
def opY : EN → Nat
  | .none => 0
  | .pin => 1
  | .mark _ _ => 1
  | .confirm _ => 1
  | .unpin => 2
  | .retire _ => 3
  | .advance => 4
  | .look _ _ => 4
  | .move _ => 4
  | .collect => 5
theorem opY_first (op : Nat) (t : Int) (h1 : 1 ≤ op) (h5 : op ≤ 5) : opY (firstE op t) = op ∧ isEN (firstE op t) = true := by
  rcases (by omega : op = 1 ∨ op = 2 ∨ op = 3 ∨ op = 4 ∨ op = 5) with rfl | rfl | rfl | rfl | rfl <;> exact ⟨rfl, rfl⟩
theorem stepE_op {W : Nat} {s : EpV} {i : Nat} (h : InvE W s) (hi : i < W) (hp : isEN (s.wk i).nx = true) :
    (isEN (stepE W s i).y = true → opY (stepE W s i).y = opY (s.wk i).nx) ∧ ((stepE W s i).q.d = !isEN (stepE W s i).y) ∧
    (opY (s.wk i).nx = 2 → (stepE W s i).q.d = true ∧ ((stepE W s i).s.wk i).pin = 0) ∧
    (opY (s.wk i).nx = 1 → (stepE W s i).q.d = true → (((stepE W s i).s.wk i).pin : Int) = (stepE W s i).q.n + 1) ∧
    (opY (s.wk i).nx ≠ 2 → (opY (s.wk i).nx = 1 → (stepE W s i).q.d = false) → ((stepE W s i).s.wk i).pin = (s.wk i).pin) := by
  unfold stepE
  cases hn : (s.wk i).nx with
  | none => rw [hn] at hp; cases hp
  | pin => simp [isEN, opY]
  | mark old e =>
    have e : ((if s.P i = old then s.setW (i + 1) (e + 1) else s).wk i).pin = (s.wk i).pin := by split <;> rfl
    simp [isEN, opY, e]
  | confirm e =>
    simp only
    split
    · simp [isEN, opY, okEq, EpV.wk_setK]
    · simp [isEN, opY]
  | unpin => simp [isEN, opY, okEq, EpV.wk_setK]
  | retire t => simp [isEN, opY, okEq, EpV.wk_setK]
  | advance => simp [isEN, opY]
  | look j e =>
    simp only
    split
    · simp [isEN, opY]
    · split <;> simp [isEN, opY]
  | move e =>
    simp only
    split
    · have e1 : ((s.setW 0 (e + 1)).wk i).pin = (s.wk i).pin := rfl
      simp [isEN, opY, okEq, e1]
    · simp [isEN, opY, okEq]
  | collect => simp [isEN, opY, EpV.wk_setK]
theorem stepE_wk {W : Nat} {s : EpV} {i j : Nat} (hj : j ≠ i) : (stepE W s i).s.wk j = s.wk j := by
  unfold stepE
  cases hn : (s.wk i).nx <;> simp only
  all_goals first
    | rfl
    | (rw [EpV.wk_setK' _ _ _ hj]; done)
    | (rw [EpV.wk_setK' _ _ _ hj]; split <;> rfl)
    | (split <;> first | rfl | (rw [EpV.wk_setK' _ _ _ hj]) | (split <;> rfl))
theorem FrX.blkF {w w' : World} {B b n : Nat} {X : List Nat} {f : Nat → Value} (h : FrX B X w w') (hk : BlkF w b n f) (hb : b ∈ X) : BlkF w' b n f := by
  obtain ⟨S, h1, h2⟩ := h
  exact hk.off h1 (fun hm => (h2 b hm).2 hb)
end Go.Proofs.Ytpjgpiiibgogeaa


/- Own lists of numbers that begin anywhere in their block. -/
namespace Go.Proofs.Ytpjgpiiibgogeaa
open Go.RowKit
set_option maxRecDepth 100000
set_option linter.unusedVariables false

theorem add_lit' (g o k : Nat) : (⟨g, o, none⟩ : Addr).add k = ⟨g, o + k, none⟩ := by unfold Addr.add; split <;> simp_all
structure OwnO (w : World) (B : Nat) (A : Option Addr) (n c : Nat) (zs : List Int) : Prop where
  len : zs.length = n
  le : n ≤ c
  cap : c ≤ maxLen
  none_ : A = none → n = 0 ∧ c = 0
  at_ : ∀ a, A = some a → a = ⟨a.block, a.off, none⟩ ∧ B ≤ a.block ∧ a.block < w.heap.size ∧
    (∀ j, j < c → (w.cell? ⟨a.block, a.off + j, none⟩).isSome = true ∧ w.frozen? ⟨a.block, a.off + j, none⟩ = false) ∧ ∀ j, j < n → w.cell? ⟨a.block, a.off + j, none⟩ = some (.int .i64 (zs.getD j 0))
section
variable {w w' : World} {B n c : Nat} {A : Option Addr} {zs : List Int} {S X : List Nat}
theorem OwnO.nil (w : World) (B : Nat) : OwnO w B none 0 0 [] := ⟨rfl, Nat.le_refl _, by unfold maxLen; omega, fun _ => ⟨rfl, rfl⟩, fun a h => by cases h⟩
theorem OwnO.off (h : OwnO w B A n c zs) (hf : Off S w w') (hS : ∀ y ∈ thX A, y ∉ S) : OwnO w' B A n c zs := by
  refine ⟨h.len, h.le, h.cap, h.none_, fun a ha => ?_⟩
  obtain ⟨h1, h2, h3, h4, h5⟩ := h.at_ a ha
  have hn : a.block ∉ S := hS _ (by rw [ha]; simp [thX])
  refine ⟨h1, h2, Nat.lt_of_lt_of_le h3 hf.size, fun j hj => ?_, fun j hj => ?_⟩
  · rw [hf.cell (p := ⟨a.block, a.off + j, none⟩) h3 hn, hf.frozen (p := ⟨a.block, a.off + j, none⟩) h3 hn]; exact h4 j hj
  · rw [hf.cell (p := ⟨a.block, a.off + j, none⟩) h3 hn]; exact h5 j hj
theorem OwnO.below (h : OwnO w B A n c zs) (hb : Below w.heap.size w w') : OwnO w' B A n c zs := h.off (S := []) (Off.of_below hb) (by simp)
theorem OwnO.frx {B' : Nat} (h : OwnO w B A n c zs) (hf : FrX B' X w w') (hA : ∀ y ∈ thX A, y ∈ X) : OwnO w' B A n c zs := by
  obtain ⟨S, h1, h2⟩ := hf
  exact h.off h1 (fun y hy hm => (h2 _ hm).2 (hA y hy))
theorem OwnO.lt (h : OwnO w B A n c zs) : ∀ y ∈ thX A, B ≤ y ∧ y < w.heap.size := by
  intro y hy
  obtain ⟨a, ha, rfl⟩ := thX_mem y hy
  have := h.at_ a ha
  exact ⟨this.2.1, this.2.2.1⟩
theorem OwnO.argI (h : OwnO w B A n c zs) : ArgI w w.heap.size A n c zs := by
  refine ⟨h.len, h.le, h.cap, h.none_, fun hn => ?_⟩
  cases hA : A with
  | none => have := h.none_ hA; omega
  | some a =>
    obtain ⟨h1, h2, h3, h4, h5⟩ := h.at_ a hA
    exact ⟨a.block, a.off, by rw [h1], h3, h5⟩
/-- A piece from q on. -/
theorem OwnO.from_ (h : OwnO w B A n c zs) {q : Nat} (hq : q ≤ n) : OwnO w B (if c = q then A else A.map (·.add q)) (n - q) (c - q) (zs.drop q) := by
  have hle := h.le
  refine ⟨by rw [List.length_drop, h.len], by omega, by have := h.cap; omega, fun he => ?_, fun a ha => ?_⟩
  · have hA : A = none := by
      split at he
      · exact he
      · cases A with
        | none => rfl
        | some a => cases he
    have := h.none_ hA
    omega
  · split at ha
    · rename_i hc
      obtain ⟨h1, h2, h3, h4, h5⟩ := h.at_ a ha
      exact ⟨h1, h2, h3, fun j hj => h4 j (by omega), fun j hj => by omega⟩
    · cases hA : A with
      | none => rw [hA] at ha; cases ha
      | some b =>
        rw [hA] at ha
        obtain ⟨h1, h2, h3, h4, h5⟩ := h.at_ b hA
        have e : a = b.add q := by simpa using ha.symm
        have e2 : b.add q = ⟨b.block, b.off + q, none⟩ := (congrArg (fun z : Addr => z.add q) h1).trans (add_lit' _ _ _)
        rw [e, e2]
        refine ⟨rfl, h2, h3, fun j hj => ?_, fun j hj => ?_⟩
        · have := h4 (q + j) (by omega)
          rw [show b.off + (q + j) = b.off + q + j by omega] at this
          exact this
        · have := h5 (q + j) (by omega)
          rw [show b.off + (q + j) = b.off + q + j by omega] at this
          rw [this]
          simp [List.getD_eq_getElem?_getD, List.getElem?_drop]
/-- An append of one number. -/
theorem wpList_append_o {ops : Array Oper} {rest : List Oper} {o : Oper} {a : Act} {Q : Exit → Act → World → Prop} (hgd : o.guard = none) (s x : Operand)
    (ho : o.op = .call { callee := .builtin .append, args := #[s, x], argTypes := #[35, 35] })
    (hs : a.eval s = .slice A n c) (hown : OwnO w B A n c zs) (p m : Nat) (t : Int) (hx : a.eval x = .slice (some ⟨p, 0, none⟩) 1 m) (hp : BlkL w p [.int .i64 t]) (hn : n + 1 ≤ 1000000) (hB : B ≤ w.heap.size)
    (h : ∀ A' c' w', OwnO w' B A' (n + 1) c' (zs ++ [t]) → Off (thX A) w w' → (∀ y ∈ thX A', y ∈ thX A ∨ y = w.heap.size ∧ y < w'.heap.size) → wpList Try.prog ops Q rest (a.put o.dst (.slice A' (n + 1) c')) w') : wpList Try.prog ops Q (o :: rest) a w := by
  obtain ⟨i0, hi, hz0, hz1, hz2⟩ := info_parts int_info
  have hcp := hown.cap
  have hle := hown.le
  have hzl := hown.len
  unfold maxLen at hcp
  have hnews : ∀ j u, [Value.int .i64 t][j]? = some u → w.cell? ((⟨p, 0, none⟩ : Addr).add j) = some u := fun j u hu => by
    rw [add_lit']; rw [Nat.zero_add]; exact hp.cell j u hu
  have h1 : ∀ u ∈ [Value.int .i64 t], u.oneCell' = true := fun u hu => by simp only [List.mem_cons, List.not_mem_nil, or_false] at hu; subst hu; rfl
  have hl : [Value.int .i64 t].length = 1 * i0.size := by rw [hz1]; rfl
  refine wpList_plain hgd fun K hK => ?_
  have key : ∃ A' c' w', (∀ ty, (Builtin.append_ #[35, 35] ty #[.slice A n c, .slice (some ⟨p, 0, none⟩) 1 m]).run Try.prog w = .ok (.slice A' (n + 1) c') w') ∧ OwnO w' B A' (n + 1) c' (zs ++ [t]) ∧ Off (thX A) w w' ∧ (∀ y ∈ thX A', y ∈ thX A ∨ y = w.heap.size ∧ y < w'.heap.size) := by
    have grown : ∀ (old : Nat), n + 1 ≤ grownCap w (n + 1) old 3 ∧ grownCap w (n + 1) old 3 ≤ maxLen ∧
        OwnO (w.drew.alloc (.cells ((zs.map V64).toArray ++ [Value.int .i64 t].toArray ++ Builtin.zeroCells (Value.int .i64 0).cells (grownCap w (n + 1) old 3 - (n + 1))) 3)) B (some ⟨w.heap.size, 0, none⟩) (n + 1) (grownCap w (n + 1) old 3) (zs ++ [t]) := by
      intro old
      have g1 := grownCap_ge w (n + 1) old 3
      have g2 := grownCap_le_maxLen w (n + 1) old 3 (by unfold maxLen; omega)
      refine ⟨g1, g2, ⟨by simp [hzl], g1, g2, fun e => by simp at e, fun b hb => ?_⟩⟩
      injection hb with hb
      subst hb
      have hblk : (w.drew.alloc (.cells ((zs.map V64).toArray ++ [Value.int .i64 t].toArray ++ Builtin.zeroCells (Value.int .i64 0).cells (grownCap w (n + 1) old 3 - (n + 1))) 3)).heap[w.heap.size]? = _ := heap_alloc_new w.drew _
      refine ⟨rfl, hB, by simp, fun j hj => ⟨?_, frozen_of_row _ _ _ _ _ hblk⟩, fun j hj => ?_⟩
      · show (World.cell? _ ⟨w.heap.size, 0 + j, none⟩).isSome = true
        rw [Nat.zero_add, cell_of_row _ _ _ _ _ (0, 0) hblk]
        rw [Array.getElem?_eq_getElem (by simp [size_zeroCells, hzl, Value.cells]; omega)]
        rfl
      · show World.cell? _ ⟨w.heap.size, 0 + j, none⟩ = _
        rw [Nat.zero_add, cell_of_row _ _ _ _ _ (0, 0) hblk, ← Array.getElem?_toList]
        simp only [Array.toList_append, List.append_assoc]
        rcases Nat.lt_or_ge j n with hjn | hjn
        · rw [List.getElem?_append_left (by simp [hzl]; omega)]
          simp [List.getD_eq_getElem?_getD, List.getElem?_append_left, hzl, hjn]
        · obtain rfl : j = n := by omega
          rw [List.getElem?_append_right (by simp [hzl])]
          simp [List.getD_eq_getElem?_getD, hzl]
    cases A with
    | none =>
      obtain ⟨rfl, rfl⟩ := hown.none_ rfl
      obtain rfl : zs = [] := List.eq_nil_of_length_eq_zero hzl
      obtain ⟨g1, g2, g3⟩ := grown 0
      refine ⟨_, _, _, fun ty => run_append_nil (P := Try.prog) w 35 ty 3 i0 (.int .i64 0) Try.underlying35 hi hz0 ⟨p, 0, none⟩ 1 m _ hl hnews (by omega) (by omega) (by rw [hz2]; omega), ?_, ?_, ?_⟩
      · simpa using g3
      · exact ⟨rfl, rfl, rfl, by simp, fun k hk _ => heap_alloc_old w.drew _ hk⟩
      · intro y hy; simp [thX] at hy; exact .inr ⟨hy, by rw [hy]; simp⟩
    | some b =>
      obtain ⟨b1, b2, b3, b4, b5⟩ := hown.at_ b rfl
      obtain ⟨bb, bo, bs⟩ := b
      simp only [Addr.mk.injEq, true_and] at b1
      subst b1
      simp only at b2 b3 b4 b5
      by_cases hroom : n + 1 ≤ c
      · refine ⟨some ⟨bb, bo, none⟩, c, w.setCell ⟨bb, bo + n, none⟩ (.int .i64 t), fun ty => ?_, ?_, ?_, ?_⟩
        · have hf := run_firstCells_some (P := Try.prog) w i0.size 1 ⟨p, 0, none⟩ 1 m _ hl hnews
          have hst := run_storeCells_cells (P := Try.prog) bb (bo + n) [Value.int .i64 t] 0 w (fun j hj => by
            obtain rfl : j = 0 := by simpa using hj
            exact (b4 n (by omega)).1) (fun j hj => by
            obtain rfl : j = 0 := by simpa using hj
            exact (b4 n (by omega)).2) h1
          have ea : (⟨bb, bo, none⟩ : Addr).add (n * i0.size) = ⟨bb, bo + n, none⟩ := by rw [hz1, Nat.mul_one, add_lit']
          simp [Builtin.append_, run_underlying Try.underlying35, sizeOf, typeInfo, hi, Builtin.lenOf, hroom, hf, ea, hst, World.setCells]
        · refine ⟨by simp [hzl], hroom, hown.cap, fun e => by simp at e, fun b hb => ?_⟩
          injection hb with hb
          subst hb
          refine ⟨rfl, b2, by simpa using b3, fun j hj => ?_, fun j hj => ?_⟩
          · show (World.cell? _ ⟨bb, bo + j, none⟩).isSome = true ∧ World.frozen? _ ⟨bb, bo + j, none⟩ = false
            by_cases e : j = n
            · subst e
              obtain ⟨u, hu⟩ := Option.isSome_iff_exists.1 (b4 _ hj).1
              exact ⟨by rw [World.cell?_setCell_same _ _ _ hu]; rfl, by simpa using (b4 _ hj).2⟩
            · exact ⟨by rw [World.cell?_setCell_other _ _ _ _ (by simp <;> omega)]; exact (b4 _ hj).1, by simpa using (b4 _ hj).2⟩
          · show World.cell? _ ⟨bb, bo + j, none⟩ = _
            rcases Nat.lt_or_ge j n with hjn | hjn
            · rw [World.cell?_setCell_other _ _ _ _ (by simp <;> omega), b5 j hjn]
              simp [List.getD_eq_getElem?_getD, List.getElem?_append_left, hzl, hjn]
            · obtain rfl : j = n := by omega
              obtain ⟨u, hu⟩ := Option.isSome_iff_exists.1 (b4 j (by omega)).1
              rw [World.cell?_setCell_same _ _ _ hu]
              simp [List.getD_eq_getElem?_getD, hzl]
        · exact (Off.refl _ _).setCell (by simp [thX]) _
        · intro y hy; exact .inl hy
      · obtain ⟨g1, g2, g3⟩ := grown c
        have hold : ∀ j v, (zs.map V64)[j]? = some v → w.cell? ((⟨bb, bo, none⟩ : Addr).add j) = some v := fun j v hv => by
          have hj : j < n := by have := (List.getElem?_eq_some_iff.1 hv).1; simpa [hzl] using this
          rw [add_lit', b5 j hj, ← hv]
          simp [List.getD_eq_getElem?_getD, hzl, hj]
        refine ⟨_, _, _, fun ty => run_append_grow (P := Try.prog) w 35 ty 3 i0 (.int .i64 0) Try.underlying35 hi hz0 ⟨bb, bo, none⟩ n c (zs.map V64) (by rw [hz1]; simp [hzl]) hold ⟨p, 0, none⟩ 1 m _ hl hnews (by omega) (by omega) (growslice_fits (by omega) (by rw [hz2]; omega)), g3, ⟨rfl, rfl, rfl, by simp, fun k hk _ => heap_alloc_old w.drew _ hk⟩, ?_⟩
        intro y hy; simp [thX] at hy; exact .inr ⟨hy, by rw [hy]; simp⟩
  obtain ⟨A', c', w', hr, k1, k2, k3⟩ := key
  have hr' := hr o.type
  unfold Oper.wp execOp
  simp only [ho, resolve, invoke, builtin, Sem.run_bind, Sem.run_pure, Result.andThen_ok, List.map_toArray, List.map_cons, List.map_nil, hs, hx, hr']
  exact hK _ _ (h A' c' w' k1 k2 k3)
end
end Go.Proofs.Ytpjgpiiibgogeaa


/- The law EpochOwn: its walk. -/
namespace Go.Proofs.Ytpjgpiiibgogeaa
open Go.RowKit
set_option maxRecDepth 100000
set_option linter.unusedVariables false

theorem blkF_ofL {w : World} {b n : Nat} {f : Nat → Value} {xs : List Value} (h : BlkL w b xs) (hn : xs.length = n) (hf : ∀ j, j < n → xs[j]? = some (f j)) : BlkF w b n f :=
  ⟨h.lt, fun j hj => h.cell j _ (hf j hj), fun j hj => h.froz j (by omega)⟩
theorem BlkF.congrF {w : World} {b n : Nat} {f g : Nat → Value} (h : BlkF w b n f) (hf : ∀ j, j < n → f j = g j) : BlkF w b n g :=
  ⟨h.lt, fun j hj => (h.cell j hj).trans (by rw [hf j hj]), h.froz⟩
theorem sli_info : (Try.prog.info? 35).map (fun i => (i.zero, i.size, i.bytes)) = some (some (.slice none 0 0), 1, 24) := by kernel_rfl
theorem who3e_lt (x : Int) : (x % 18446744073709551616 % 3).toNat < 3 := by omega
theorem who3e_eq (x : Int) : (IntKind.u64.wrap x).tmod 3 = ((x % 18446744073709551616 % 3).toNat : Int) := by
  rw [u64e, Int.tmod_eq_emod_of_nonneg (by omega)]
  omega
/-- Where a piece from k on lies. -/
def frO (A : Option Addr) (c k : Nat) : Option Addr := if c = k then A else A.map (·.add k)
theorem elem_int : Try.prog.underlying 35 = some (.slice (Try.prog.elem 35)) := by kernel_rfl
theorem size_int (w : World) : (sizeOf (Try.prog.elem 35)).run Try.prog w = .ok 1 w := by kernel_rfl
theorem run_from_int2 (w : World) (A : Option Addr) (n c k : Nat) (hk : k ≤ n) : (Instr.slice 35 (.slice A n c) (some (.int .i64 (k : Int))) none none).run Try.prog w = .ok (.slice (frO A c k) (n - k) (c - k)) w := by
  rw [run_slice_l (ht := elem_int) (h0 := by omega) (h1 := by omega), size_int]
  simp [Result.andThen, sliced, frO]
theorem run_from_int (w : World) (A : Option Addr) (n c k : Nat) (hk : k ≤ n) : (Instr.sliceAt 35 (.slice A n c) (some (.int .i64 (k : Int))) none none).run Try.prog w = .ok (.slice (frO A c k) (n - k) (c - k)) w := by
  rw [run_sliceAt_slice (h := elem_int), run_from_int2 w A n c k hk]
theorem frO_thX {A : Option Addr} {c k : Nat} : ∀ y ∈ thX (frO A c k), y ∈ thX A := by
  intro y hy
  unfold frO at hy
  split at hy
  · exact hy
  · cases A with
    | none => simp [thX] at hy
    | some a => simp only [Option.map_some, thX, List.mem_cons, List.not_mem_nil, or_false] at hy ⊢; rw [hy]; unfold Addr.add; split <;> rfl
structure OwS (w wr : World) (x H k : Nat) (s : EpV) (rA : Nat → Option Addr) (rc : Nat → Nat) (X : List Nat) : Prop where
  c : EpC w wr x 3 X k s
  h : BlkF wr H 3 (fun j => .slice (rA j) (s.wk j).gs.length (rc j))
  r : ∀ j, j < 3 → OwnO wr w.heap.size (rA j) (s.wk j).gs.length (rc j) ((s.wk j).gs.map (·.1))
  hX : H ∈ X
  rX : ∀ j, j < 3 → ∀ y ∈ thX (rA j), y ∈ X
  dis : ∀ i j, i < 3 → j < 3 → i ≠ j → ∀ y ∈ thX (rA i), y ∉ thX (rA j)
  hr : ∀ j, j < 3 → H ∉ thX (rA j)
  nx : ∀ j, j < 3 → (s.wk j).nx = .none
  ge : w.heap.size ≤ H
theorem OwS.below {w wr w' : World} {x H k : Nat} {s : EpV} {rA : Nat → Option Addr} {rc : Nat → Nat} {X : List Nat} (h : OwS w wr x H k s rA rc X) (hb : Below wr.heap.size wr w') : OwS w w' x H k s rA rc X :=
  ⟨h.c.below hb, h.h.off (Off.of_below (S := []) hb) (by simp), fun j hj => (h.r j hj).below hb, h.hX, h.rX, h.dis, h.hr, h.nx, h.ge⟩
theorem EpR.reOff {w w' : World} {B x b bw wb W : Nat} {X X' S : List Nat} {k : Nat} {s : EpV} {fv : Nat → Value} {rA : Nat → Option Addr} {rc : Nat → Nat} {ring : List Value} (h : EpR w B x b bw wb W X k s fv rA rc ring) (hf : Off S w w') (hS : ∀ y ∈ S, y ∈ X) (hX : ∀ y ∈ X', y ∈ X ∨ (w.heap.size ≤ y ∧ y < w'.heap.size)) : EpR w' B x b bw wb W X' k s fv rA rc ring := by
  have h' := h.offX hf hS
  obtain ⟨l1, l2, l3, l4⟩ := h.lts
  have hsub : ∀ p, p < w.heap.size → QE x b bw wb W X' rA p → QE x b bw wb W X rA p := fun p hp hq => by
    rcases hq with hq | hq
    · left
      simp only [List.mem_cons] at hq ⊢
      rcases hq with e | e | e | e | e
      · exact .inl e
      · exact .inr (.inl e)
      · exact .inr (.inr (.inl e))
      · exact .inr (.inr (.inr (.inl e)))
      · rcases hX _ e with e2 | e2
        · exact .inr (.inr (.inr (.inr e2)))
        · omega
    · exact .inr hq
  refine ⟨h'.xb, h'.m, h'.wk, h'.row, h'.dis, fun j hj a ha hm => ?_, fun j hj => ?_, h'.nx, fun y hy hm => ?_, fun y hy => ?_, h'.w64, h'.ge⟩
  · have hlt := ((h.row j hj).lt a ha).2
    have hr := h.rX j hj a ha
    simp only [List.mem_cons, not_or] at hr hm
    rcases hm with e | e | e | e | e
    · exact hr.1 e
    · exact hr.2.1 e
    · exact hr.2.2.1 e
    · exact hr.2.2.2.1 e
    · rcases hX _ e with e2 | e2
      · exact hr.2.2.2.2 e2
      · omega
  · exact (((h.cl j hj).weak (Q' := fun p => QE x b bw wb W X rA p ∨ QE x b bw wb W X' rA p) (fun p hp hq => hq.elim id (hsub p hp))).off hf (fun y hy => .inl (.inl (by have := hS y hy; simp [this])))).weak (fun p _ hq => .inr hq)
  · rcases hX y hy with e | e
    · exact h.nX y e hm
    · simp only [List.mem_cons, List.not_mem_nil, or_false] at hm
      omega
  · rcases hX y hy with e | e
    · have := h.hX y e; have := hf.size; omega
    · exact e.2
theorem EpC.reOff {w0 w w' : World} {x W k : Nat} {X X' S : List Nat} {s : EpV} (h : EpC w0 w x W X k s) (hf : Off S w w') (hS : ∀ y ∈ S, y ∈ X ∧ w0.heap.size ≤ y) (hX : ∀ y ∈ X', y ∈ X ∨ (w.heap.size ≤ y ∧ y < w'.heap.size)) : EpC w0 w' x W X' k s := by
  obtain ⟨b, bw, wb, fv, rA, rc, ring, e⟩ := h.ex
  exact ⟨⟨b, bw, wb, fv, rA, rc, ring, e.reOff hf (fun y hy => (hS y hy).1) hX⟩, h.bel.trans (hf.below h.bel.size (fun y hy => (hS y hy).2)), h.inv, h.ek⟩
structure MidS (w wr : World) (x H k : Nat) (s : EpV) (rA : Nat → Option Addr) (rc : Nat → Nat) (X : List Nat) (q : Nat) (L : List Int) (Ax : Option Addr) (cx : Nat) (th : List Int) (r : Nat) (te : Nat) (tn : Int) : Prop where
  c : EpC w wr x 3 X k s
  h : BlkF wr H 3 (fun j => .slice (rA j) (if j = q then L.length else (s.wk j).gs.length) (rc j))
  rq : OwnO wr w.heap.size (rA q) L.length (rc q) L
  rr : ∀ j, j < 3 → j ≠ q → OwnO wr w.heap.size (rA j) (s.wk j).gs.length (rc j) ((s.wk j).gs.map (·.1))
  hX : H ∈ X
  rX : ∀ j, j < 3 → ∀ y ∈ thX (rA j), y ∈ X
  dis : ∀ i j, i < 3 → j < 3 → i ≠ j → ∀ y ∈ thX (rA i), y ∉ thX (rA j)
  hr : ∀ j, j < 3 → H ∉ thX (rA j)
  nx : ∀ j, j < 3 → (s.wk j).nx = .none
  ge : w.heap.size ≤ H
  tg : ArgI wr wr.heap.size Ax th.length cx th
  kr : BlkL wr r [.bool true, .int .i64 (te : Int), .int .i64 tn, .slice Ax th.length cx]
  eq : th = L.take th.length
  dr : (s.wk q).gs.map (·.1) = L.drop th.length
theorem MidS.below {w wr w' : World} {x H k : Nat} {s : EpV} {rA : Nat → Option Addr} {rc : Nat → Nat} {X : List Nat} {q : Nat} {L : List Int} {Ax : Option Addr} {cx : Nat} {th : List Int} {r te : Nat} {tn : Int} (h : MidS w wr x H k s rA rc X q L Ax cx th r te tn) (hb : Below wr.heap.size wr w') : MidS w w' x H k s rA rc X q L Ax cx th r te tn :=
  ⟨h.c.below hb, h.h.off (Off.of_below (S := []) hb) (by simp), h.rq.below hb, fun j hj e => (h.rr j hj e).below hb, h.hX, h.rX, h.dis, h.hr, h.nx, h.ge, (h.tg.below hb).more hb.size, h.kr.off (Off.of_below (S := []) hb) (by simp), h.eq, h.dr⟩
theorem MidS.le {w wr : World} {x H k : Nat} {s : EpV} {rA : Nat → Option Addr} {rc : Nat → Nat} {X : List Nat} {q : Nat} {L : List Int} {Ax : Option Addr} {cx : Nat} {th : List Int} {r te : Nat} {tn : Int} (h : MidS w wr x H k s rA rc X q L Ax cx th r te tn) : th.length ≤ L.length := by
  have := congrArg List.length h.eq
  rw [List.length_take] at this
  omega
/-- The row's head is cut off. -/
theorem MidS.cut {w wr : World} {x H k : Nat} {s : EpV} {rA : Nat → Option Addr} {rc : Nat → Nat} {X : List Nat} {q : Nat} {L : List Int} {Ax : Option Addr} {cx : Nat} {th : List Int} {r te : Nat} {tn : Int} (h : MidS w wr x H k s rA rc X q L Ax cx th r te tn) (hq : q < 3) (m c : Nat) (hm : L.length - th.length = m) (hc : rc q - th.length = c) :
    OwS w (wr.drew.setCell ⟨H, q, none⟩ (.slice (frO (rA q) (rc q) th.length) m c)) x H k s (updF rA q (frO (rA q) (rc q) th.length)) (updF rc q c) X := by
  subst hm hc
  have hd := h.below (Below.refl wr.heap.size wr).drew
  have hp := (Off.refl [H] wr.drew).setCell (p := ⟨H, q, none⟩) (by simp) (.slice (frO (rA q) (rc q) th.length) (L.length - th.length) (rc q - th.length))
  have el : (s.wk q).gs.length = L.length - th.length := by
    have := congrArg List.length h.dr
    simpa using this
  have hsub : ∀ j, j < 3 → ∀ y ∈ thX (updF rA q (frO (rA q) (rc q) th.length) j), y ∈ thX (rA j) := fun j hj y hy => by
    by_cases e : j = q
    · subst e; rw [updF_same] at hy; exact frO_thX y hy
    · rw [updF_other _ _ _ _ e] at hy; exact hy
  refine ⟨hd.c.putX hp (fun y hy => by simp only [List.mem_cons, List.not_mem_nil, or_false] at hy; subst hy; exact ⟨h.hX, h.ge⟩), (hd.h.set q _ hq).congrF (fun j hj => ?_), fun j hj => ?_, h.hX, fun j hj y hy => h.rX j hj y (hsub j hj y hy), fun i j hi hj hij y hy hm => h.dis i j hi hj hij y (hsub i hi y hy) (hsub j hj y hm), fun j hj hm => h.hr j hj (hsub j hj _ hm), h.nx, h.ge⟩
  · by_cases e : j = q
    · subst e; rw [updF_same, updF_same, updF_same, el]
    · rw [updF_other _ _ _ _ e, updF_other _ _ _ _ e, updF_other _ _ _ _ e, if_neg e]
  · by_cases e : j = q
    · subst e
      rw [updF_same, updF_same, el, h.dr]
      exact (hd.rq.from_ h.le).off hp (fun y hy hm => h.hr j hj (by
        have := frO_thX (A := rA j) (c := rc j) (k := th.length) y hy
        simp only [List.mem_cons, List.not_mem_nil, or_false] at hm
        rwa [hm] at this))
    · rw [updF_other _ _ _ _ e, updF_other _ _ _ _ e]
      exact (hd.rr j hj e).off hp (fun y hy hm => h.hr j hj (by simp only [List.mem_cons, List.not_mem_nil, or_false] at hm; rwa [hm] at hy))
theorem same_row {w : World} {B B' m c9 cc : Nat} {A9 A : Option Addr} {l : List Int} (o : OwnC w B TI 1 A9 m c9 (thI l)) (h : OwnO w B' A m cc l) :
    Calls Try.prog 28 #[.slice A9 m c9, .slice A m cc] w (SameEndI w true) :=
  sameInts_any w _ _ A9 A m c9 m cc l l true (decide_eq_true rfl) (argI_of o.arg) h.argI
theorem eheldL {w0 w : World} {x W k : Nat} {X : List Nat} {s : EpV} (h : EpC w0 w x W X k s) (i : Nat) (hi : i < W) (m : Nat) (hm : (s.wk i).gs.length = m) :
    Calls Try.prog 21 #[PV x, IV i] w fun e w' => ∃ A c, e = .returned (.slice A m c) ∧ OwnC w' w.heap.size TI 1 A m c (thI ((s.wk i).gs.map (·.1))) ∧ Below w.heap.size w w' := by
  have h1 := eheldC h i hi
  unfold ThE at h1
  rw [List.length_map, hm] at h1
  exact h1
theorem MidS.same {w wr : World} {x H k : Nat} {s : EpV} {rA : Nat → Option Addr} {rc : Nat → Nat} {X : List Nat} {q : Nat} {L : List Int} {Ax : Option Addr} {cx : Nat} {th : List Int} {r te : Nat} {tn : Int} (h : MidS w wr x H k s rA rc X q L Ax cx th r te tn) (t : Nat) :
    Calls Try.prog 28 #[.slice Ax th.length cx, .slice (rA q) th.length (rc q)] (wr.drewN t) fun e w' => e = .returned (.bool true) ∧ ∃ m, w' = wr.drewN m := by
  have h1 := h.tg.below (below_drewN (Below.refl _ _) t)
  have h2 := (h.rq.argI.to_ h.le).below (below_drewN (Below.refl _ _) t)
  refine (sameInts_any (wr.drewN t) _ _ Ax (rA q) th.length cx th.length (rc q) th (L.take th.length) true (decide_eq_true h.eq) h1 h2).mono ?_
  rintro e w' ⟨he, m, rfl⟩
  exact ⟨he, _, World.drewN_drewN _ _ _⟩
def OwI (w : World) (x H n : Nat) (iv : Value) (wr : World) : Prop :=
  ∃ i k s rA rc X, i ≤ n ∧ i ≤ 200 ∧ iv = .int .i64 ((i : Nat) : Int) ∧ k ≤ 100 * i ∧ OwS w wr x H k s rA rc X ∧ ∀ j, j < 3 → (s.wk j).gs.length ≤ i
end Go.Proofs.Ytpjgpiiibgogeaa


/- The document's Epochs in memory; there, Pending, Pinned, Epoch, end. -/
namespace Go.Proofs.Ytpjgpiiibgogeaa
open Go.RowKit
set_option maxRecDepth 100000
set_option linter.unusedVariables false

structure DkV where
  op : Nat
  pl : Nat
  e : Int
  t : Int
  pn : Bool
  A : Option Addr
  n : Nat
  c : Nat
  P : Int
abbrev noDk : DkV := ⟨0, 0, 0, 0, false, none, 0, 0, 0⟩
def dkV (k : DkV) : Nat → Value
  | 0 => .int .u8 (k.op : Int)
  | 1 => .int .i64 (k.pl : Int)
  | 2 => .int .i64 k.e
  | 3 => .int .i64 k.t
  | 4 => .bool k.pn
  | 5 => .slice k.A k.n k.c
  | _ => .int .i64 k.P
def dkF (f : Nat → DkV) (j : Nat) : Value := dkV (f (j / 7)) (j % 7)
theorem dkF_at (f : Nat → DkV) (i c : Nat) (hc : c < 7) : dkF f (i * 7 + c) = dkV (f i) c := by
  unfold dkF; rw [show (i * 7 + c) / 7 = i by omega, show (i * 7 + c) % 7 = c by omega]
theorem dkF_set {f : Nat → DkV} {i c : Nat} {v : Value} {x : DkV} (hc : c < 7) (h : ∀ c', c' < 7 → dkV x c' = if c' = c then v else dkV (f i) c') : updF (dkF f) (i * 7 + c) v = dkF (updF f i x) := by
  funext j
  by_cases e : j = i * 7 + c
  · subst e; rw [updF_same, dkF_at _ _ _ hc, updF_same, h c hc, if_pos rfl]
  · rw [updF_other _ _ _ _ e]
    unfold dkF
    by_cases e2 : j / 7 = i
    · rw [e2, updF_same, h _ (Nat.mod_lt _ (by omega)), if_neg (by omega)]
    · rw [updF_other _ _ _ _ e2]
/-- The document's Epochs: its epoch, its workers. -/
structure DrS (w : World) (d db W : Nat) (E : Int) (f : Nat → DkV) : Prop where
  hd : BlkL w d [.int .i64 E, .slice (some ⟨db, 0, none⟩) W W]
  wk : BlkF w db (W * 7) (dkF f)
  ne : d ≠ db
section
variable {w w' : World} {d db W : Nat} {E : Int} {f : Nat → DkV} {S : List Nat}
theorem DrS.off (h : DrS w d db W E f) (hf : Off S w w') (h1 : d ∉ S) (h2 : db ∉ S) : DrS w' d db W E f := ⟨h.hd.off hf h1, h.wk.off hf h2, h.ne⟩
theorem DrS.below (h : DrS w d db W E f) (hb : Below w.heap.size w w') : DrS w' d db W E f := h.off (S := []) (Off.of_below hb) (by simp) (by simp)
theorem DrS.k (h : DrS w d db W E f) {i c : Nat} (hi : i < W) (hc : c < 7) : w.cell? ⟨db, i * 7 + c, none⟩ = some (dkV (f i) c) := by rw [h.wk.cell _ (by omega), dkF_at _ _ _ hc]
theorem DrS.fr (h : DrS w d db W E f) {i c : Nat} (hi : i < W) (hc : c < 7) : w.frozen? ⟨db, i * 7 + c, none⟩ = false := h.wk.froz _ (by omega)
theorem DrS.setD (h : DrS w d db W E f) {i c : Nat} {v : Value} {x : DkV} (hi : i < W) (hc : c < 7) (hx : ∀ c', c' < 7 → dkV x c' = if c' = c then v else dkV (f i) c') : DrS (w.setCell ⟨db, i * 7 + c, none⟩ v) d db W E (updF f i x) := by
  refine ⟨h.hd.off ((Off.refl [db] w).setCell (by simp) _) (by simpa using h.ne), ?_, h.ne⟩
  rw [← dkF_set hc hx]
  exact h.wk.set _ _ (by omega)
theorem there_any (h : DrS w d db W E f) (who : Int) : Calls Try.prog 56 #[PV d, .int .i64 who] w fun e w' => e = .returned (.bool (inB who W)) ∧ w = w' := by
  have c1 : w.cell? ⟨d, 1, none⟩ = some (.slice (some ⟨db, 0, none⟩) W W) := h.hd.cell 1 _ rfl
  clear h
  rcases h0 : decide (0 ≤ who) with _ | _
  · have e : inB who W = false := by unfold inB; rw [h0]; rfl
    go_enter Try.func56, Try.ntmps56
    go_wp2
    go_ret
    exact ⟨by rw [e]; rfl, rfl⟩
  · have e : inB who W = decide (who < W) := by unfold inB; rw [h0]; rfl
    go_enter Try.func56, Try.ntmps56
    go_wp2
    go_ret
    exact ⟨by rw [e]; rfl, rfl⟩
theorem there_nil (w : World) (who : Int) : Calls Try.prog 56 #[.pointer none, .int .i64 who] w fun e w' => e = .returned (.bool false) ∧ w = w' := by
  go_enter Try.func56, Try.ntmps56
  go_wp2
  go_ret
  exact ⟨rfl, rfl⟩
theorem dpend_no (w : World) (p : Value) (who : Int) (HT : Hid (Calls Try.prog 56 #[p, .int .i64 who] w fun e w' => e = .returned (.bool false) ∧ w = w')) : Calls Try.prog 23 #[p, .int .i64 who] w fun e w' => e = .returned (.bool false) ∧ w = w' := by
  go_enter Try.func23, Try.ntmps23
  go_wp2_with fail
  with_reducible refine HT.out.mono ?_
  rintro e w1 ⟨rfl, hw⟩
  subst hw
  go_wp2
  go_ret
  exact ⟨rfl, rfl⟩
theorem dpin_no (w : World) (p : Value) (who : Int) (HT : Hid (Calls Try.prog 56 #[p, .int .i64 who] w fun e w' => e = .returned (.bool false) ∧ w = w')) : Calls Try.prog 25 #[p, .int .i64 who] w fun e w' => e = .returned (.bool false) ∧ w = w' := by
  go_enter Try.func25, Try.ntmps25
  go_wp2_with fail
  with_reducible refine HT.out.mono ?_
  rintro e w1 ⟨rfl, hw⟩
  subst hw
  go_wp2
  go_ret
  exact ⟨rfl, rfl⟩
theorem dpend_any (h : DrS w d db W E f) (i : Nat) (hi : i < W) (r : Bool) (hr : ((f i).op != 0) = r) : Calls Try.prog 23 #[PV d, IV i] w fun e w' => e = .returned (.bool r) ∧ w = w' := by
  have HT := Lib.hid (there_any h (i : Int))
  rw [show inB (i : Int) W = true from inB_iff.mpr (by omega)] at HT
  have c1 : w.cell? ⟨d, 1, none⟩ = some (.slice (some ⟨db, 0, none⟩) W W) := h.hd.cell 1 _ rfl
  have k0 : w.cell? ⟨db, i * 7, none⟩ = some (.int .u8 ((f i).op : Int)) := h.k (c := 0) hi (by omega)
  have j0 : (0 : Int) ≤ (i : Int) := by omega
  have j1 : (i : Int) < (W : Int) := by omega
  clear h
  generalize (f i).op = op at *
  rcases r with _ | _
  · have e0 : op = 0 := by simpa using hr
    subst e0
    go_enter Try.func23, Try.ntmps23
    go_wp2_with fail
    with_reducible refine HT.out.mono ?_
    rintro e w1 ⟨rfl, hw⟩
    subst hw
    go_wp2
    go_ret
    exact ⟨rfl, rfl⟩
  · have e0 : ((op : Int) != 0) = true := by simp at hr ⊢; omega
    go_enter Try.func23, Try.ntmps23
    go_wp2_with fail
    with_reducible refine HT.out.mono ?_
    rintro e w1 ⟨rfl, hw⟩
    subst hw
    go_wp2
    go_ret
    exact ⟨by first | rfl | (rw [e0]; rfl) | simp [e0], rfl⟩
theorem dpin_any (h : DrS w d db W E f) (i : Nat) (hi : i < W) : Calls Try.prog 25 #[PV d, IV i] w fun e w' => e = .returned (.bool (f i).pn) ∧ w = w' := by
  have HT := Lib.hid (there_any h (i : Int))
  rw [show inB (i : Int) W = true from inB_iff.mpr (by omega)] at HT
  have c1 : w.cell? ⟨d, 1, none⟩ = some (.slice (some ⟨db, 0, none⟩) W W) := h.hd.cell 1 _ rfl
  have k0 : w.cell? ⟨db, i * 7 + 4, none⟩ = some (.bool (f i).pn) := h.k (c := 4) hi (by omega)
  have j0 : (0 : Int) ≤ (i : Int) := by omega
  have j1 : (i : Int) < (W : Int) := by omega
  clear h
  generalize (f i).pn = pn at *
  go_enter Try.func25, Try.ntmps25
  go_wp2_with fail
  with_reducible refine HT.out.mono ?_
  rintro e w1 ⟨rfl, hw⟩
  subst hw
  go_wp2
  go_ret
  exact ⟨by first | rfl | simp, rfl⟩
theorem depoch_any (h : DrS w d db W E f) : Calls Try.prog 27 #[PV d] w fun e w' => e = .returned (.int .i64 E) ∧ w = w' := by
  have c0 : w.cell? ⟨d, 0, none⟩ = some (.int .i64 E) := h.hd.cell 0 _ rfl
  clear h
  go_enter Try.func27, Try.ntmps27
  go_wp2
  go_ret
  exact ⟨rfl, rfl⟩
theorem depoch_nil (w : World) : Calls Try.prog 27 #[.pointer none] w fun e w' => e = .returned (.int .i64 0) ∧ w = w' := by
  go_enter Try.func27, Try.ntmps27
  go_wp2
  go_ret
  exact ⟨rfl, rfl⟩
abbrev RD : Obj := .cells #[.bool false, .int .i64 0, .int .i64 0, .slice none 0 0] 41
/-- A call returns. -/
theorem dend_any (h : DrS w d db W E f) (i : Nat) (hi : i < W) (e n : Int) : Calls Try.prog 58 #[.pointer (some ⟨db, i * 7, none⟩), .int .i64 e, .int .i64 n] w fun e' w' => e' = .returned (.agg #[.bool true, .int .i64 e, .int .i64 n, .slice none 0 0]) ∧
    DrS w' d db W E (updF f i { f i with op := 0 }) ∧ Off [db] w w' := by
  have k0 : w.cell? ⟨db, i * 7, none⟩ = some (.int .u8 ((f i).op : Int)) := h.k (c := 0) hi (by omega)
  have f0 : w.frozen? ⟨db, i * 7, none⟩ = false := h.fr (c := 0) hi (by omega)
  have lb := h.wk.lt
  have h1 : DrS (w.setCell ⟨db, i * 7, none⟩ (.int .u8 0)) d db W E (updF f i { f i with op := 0 }) := h.setD (i := i) (c := 0) (v := .int .u8 0) (x := { f i with op := 0 }) hi (by omega) (fun c' hc' => by
    match c', hc' with
    | 0, _ => rfl
    | 1, _ => rfl
    | 2, _ => rfl
    | 3, _ => rfl
    | 4, _ => rfl
    | 5, _ => rfl
    | 6, _ => rfl)
  have hal := (Below.refl _ (w.setCell ⟨db, i * 7, none⟩ (.int .u8 0))).alloc (Nat.le_refl _) (.cells #[.bool true, .int .i64 e, .int .i64 n, .slice none 0 0] 41)
  have h2 := h1.below hal
  have o1 : Off [db] w ((w.setCell ⟨db, i * 7, none⟩ (.int .u8 0)).alloc (.cells #[.bool true, .int .i64 e, .int .i64 n, .slice none 0 0] 41)) := ((Off.refl [db] w).setCell (by simp) _).alloc _
  have kr := BlkL.new (w.setCell ⟨db, i * 7, none⟩ (.int .u8 0)) [.bool true, .int .i64 e, .int .i64 n, .slice none 0 0] 41
  have hne : w.heap.size ≠ db := by omega
  have HH := Lib.hid (And.intro h2 (And.intro o1 kr))
  clear h h1 h2 o1 kr hal
  go_enter Try.func58, Try.ntmps58
  go_wp2
  have q0 := HH.out.2.2.cell 0 _ rfl
  have q1 := HH.out.2.2.cell 1 _ rfl
  have q2 := HH.out.2.2.cell 2 _ rfl
  have q3 := HH.out.2.2.cell 3 _ rfl
  simp only [World.size_setCell] at q0 q1 q2 q3
  refine bodyPost_ret (v := .agg #[.bool true, .int .i64 e, .int .i64 n, .slice none 0 0]) ?_ ?_ ?_
  · simp [results, Try.results58, go_sem, q0, q1, q2, q3]
  · rfl
  · exact ⟨rfl, HH.out.1, HH.out.2.1⟩
end
end Go.Proofs.Ytpjgpiiibgogeaa


/- The document's Epochs: pin, advance. -/
namespace Go.Proofs.Ytpjgpiiibgogeaa
open Go.RowKit
set_option maxRecDepth 100000
set_option linter.unusedVariables false

section
variable {w w' : World} {d db W : Nat} {E : Int} {f : Nat → DkV} {S : List Nat}
theorem dk_c (k : DkV) (P : Nat → Value) (h0 : dkV k 0 = P 0) (h1 : dkV k 1 = P 1) (h2 : dkV k 2 = P 2) (h3 : dkV k 3 = P 3) (h4 : dkV k 4 = P 4) (h5 : dkV k 5 = P 5) (h6 : dkV k 6 = P 6) : ∀ c, c < 7 → dkV k c = P c := fun c hc => by
  match c, hc with
  | 0, _ => exact h0
  | 1, _ => exact h1
  | 2, _ => exact h2
  | 3, _ => exact h3
  | 4, _ => exact h4
  | 5, _ => exact h5
  | 6, _ => exact h6
theorem DrS.s1 (h : DrS w d db W E f) {i : Nat} (hi : i < W) (v : Nat) : DrS (w.setCell ⟨db, i * 7 + 1, none⟩ (.int .i64 (v : Int))) d db W E (updF f i { f i with pl := v }) := h.setD hi (by omega) (dk_c _ _ rfl rfl rfl rfl rfl rfl rfl)
theorem DrS.s2 (h : DrS w d db W E f) {i : Nat} (hi : i < W) (v : Int) : DrS (w.setCell ⟨db, i * 7 + 2, none⟩ (.int .i64 v)) d db W E (updF f i { f i with e := v }) := h.setD hi (by omega) (dk_c _ _ rfl rfl rfl rfl rfl rfl rfl)
theorem DrS.s0 (h : DrS w d db W E f) {i : Nat} (hi : i < W) (v : Nat) : DrS (w.setCell ⟨db, i * 7, none⟩ (.int .u8 (v : Int))) d db W E (updF f i { f i with op := v }) := h.setD (c := 0) hi (by omega) (dk_c _ _ rfl rfl rfl rfl rfl rfl rfl)
theorem DrS.s3 (h : DrS w d db W E f) {i : Nat} (hi : i < W) (v : Int) : DrS (w.setCell ⟨db, i * 7 + 3, none⟩ (.int .i64 v)) d db W E (updF f i { f i with t := v }) := h.setD hi (by omega) (dk_c _ _ rfl rfl rfl rfl rfl rfl rfl)
theorem DrS.s4 (h : DrS w d db W E f) {i : Nat} (hi : i < W) (v : Bool) : DrS (w.setCell ⟨db, i * 7 + 4, none⟩ (.bool v)) d db W E (updF f i { f i with pn := v }) := h.setD hi (by omega) (dk_c _ _ rfl rfl rfl rfl rfl rfl rfl)
theorem DrS.s5 (h : DrS w d db W E f) {i : Nat} (hi : i < W) (A : Option Addr) (n c : Nat) : DrS (w.setCell ⟨db, i * 7 + 5, none⟩ (.slice A n c)) d db W E (updF f i { f i with A := A, n := n, c := c }) := h.setD hi (by omega) (dk_c _ _ rfl rfl rfl rfl rfl rfl rfl)
theorem DrS.s6 (h : DrS w d db W E f) {i : Nat} (hi : i < W) (v : Int) : DrS (w.setCell ⟨db, i * 7 + 6, none⟩ (.int .i64 v)) d db W E (updF f i { f i with P := v }) := h.setD hi (by omega) (dk_c _ _ rfl rfl rfl rfl rfl rfl rfl)
theorem DrS.sE (h : DrS w d db W E f) (v : Int) : DrS (w.setCell ⟨d, 0, none⟩ (.int .i64 v)) d db W v f :=
  ⟨by have := h.hd.set 0 (.int .i64 v) (by simp); simpa using this, h.wk.off ((Off.refl [d] w).setCell (p := ⟨d, 0, none⟩) (by simp) _) (by simpa using Ne.symm h.ne), h.ne⟩
theorem updF_updF {α : Type} (f : Nat → α) (i : Nat) (a b : α) : updF (updF f i a) i b = updF f i b := by
  funext j
  by_cases e : j = i
  · subst e; rw [updF_same, updF_same]
  · rw [updF_other _ _ _ _ e, updF_other _ _ _ _ e, updF_other _ _ _ _ e]
def DsE (w : World) (d db W : Nat) (E : Int) (f : Nat → DkV) (S : List Nat) (qd : Bool) (qe qn : Int) (e : Ending) (w' : World) : Prop :=
  e = .returned (.agg #[.bool qd, .int .i64 qe, .int .i64 qn, .slice none 0 0]) ∧ DrS w' d db W E f ∧ Off S w w'

set_option maxHeartbeats 1600000 in
theorem dpin_a (h : DrS w d db W E f) (i : Nat) (hi : i < W) (pl : Nat) (hpl : (f i).pl = pl) (hp2 : pl < 4611686018427387904) (ev : Int) (hev : (f i).e = ev) (h2 : (pl + 1) % 2 = 0) (hb1 : -4611686018427387904 ≤ ev) (hb2 : ev ≤ 4611686018427387904) : Calls Try.prog 57 #[PV d, .pointer (some ⟨db, i * 7, none⟩)] w (DsE w d db W (E) (updF f i { f i with pl := pl + 1, P := ev + 1 }) [db] false 0 0) := by
  have hc : DrS ((w.setCell ⟨db, i * 7 + 1, none⟩ (.int .i64 ((pl : Int) + 1))).setCell ⟨db, i * 7 + 6, none⟩ (.int .i64 (ev + 1))) d db W (E) (updF f i { f i with pl := pl + 1, P := ev + 1 }) := by
    have := (h.s1 hi (pl + 1)).s6 hi (ev + 1)
    simp only [updF_same, updF_updF] at this
    exact this
  have hal := (Below.refl _ ((w.setCell ⟨db, i * 7 + 1, none⟩ (.int .i64 ((pl : Int) + 1))).setCell ⟨db, i * 7 + 6, none⟩ (.int .i64 (ev + 1)))).alloc (Nat.le_refl _) (.cells #[.bool false, .int .i64 0, .int .i64 0, .slice none 0 0] 41)
  have hc2 := (hc.below hal)
  have ho : Off [db] w _ := ((((Off.refl [db] w).setCell (p := ⟨db, i * 7 + 1, none⟩) (by simp) (.int .i64 ((pl : Int) + 1))).setCell (p := ⟨db, i * 7 + 6, none⟩) (by simp) (.int .i64 (ev + 1))).alloc (.cells #[.bool false, .int .i64 0, .int .i64 0, .slice none 0 0] 41))
  have kr := (BlkL.new ((w.setCell ⟨db, i * 7 + 1, none⟩ (.int .i64 ((pl : Int) + 1))).setCell ⟨db, i * 7 + 6, none⟩ (.int .i64 (ev + 1))) [.bool false, .int .i64 0, .int .i64 0, .slice none 0 0] 41)
  have k1 : w.cell? ⟨db, i * 7 + 1, none⟩ = some (.int .i64 ((f i).pl : Int)) := h.k (c := 1) hi (by omega)
  have k2 : w.cell? ⟨db, i * 7 + 2, none⟩ = some (.int .i64 (f i).e) := h.k (c := 2) hi (by omega)
  have f0 : w.frozen? ⟨db, i * 7, none⟩ = false := h.fr (c := 0) hi (by omega)
  have f1 := h.fr (i := i) (c := 1) hi (by omega)
  have f2 := h.fr (i := i) (c := 2) hi (by omega)
  have f4 := h.fr (i := i) (c := 4) hi (by omega)
  have f6 := h.fr (i := i) (c := 6) hi (by omega)
  have k4 : w.cell? ⟨db, i * 7 + 4, none⟩ = some (.bool (f i).pn) := h.k (c := 4) hi (by omega)
  have k6 : w.cell? ⟨db, i * 7 + 6, none⟩ = some (.int .i64 (f i).P) := h.k (c := 6) hi (by omega)
  have d0 : w.cell? ⟨d, 0, none⟩ = some (.int .i64 E) := h.hd.cell 0 _ rfl
  have d1 : w.cell? ⟨d, 1, none⟩ = some (.slice (some ⟨db, 0, none⟩) W W) := h.hd.cell 1 _ rfl
  have e0 : w.frozen? ⟨d, 0, none⟩ = false := h.hd.froz 0 (by simp)
  have lb := h.wk.lt
  have ld := h.hd.lt
  have hne := h.ne
  have hn1 : w.heap.size ≠ db := by omega
  have hn2 : w.heap.size ≠ d := by omega
  rw [hpl] at k1
  rw [hev] at k2
  have t1 : IntKind.i64.wrap ((pl : Int) + 1) = (pl : Int) + 1 := IntWalk.i64_in _ (by omega)
  have t2 : ((pl : Int) + 1).tmod 2 = 0 := by rw [Int.tmod_eq_emod_of_nonneg (by omega)]; omega
  have t3 : IntKind.i64.wrap (ev + 1) = ev + 1 := IntWalk.i64_in _ (by omega)
  have HH := Lib.hid (And.intro hc2 (And.intro ho kr))
  clear h hc hal hc2 ho kr hpl hev
  generalize f i = fi at *
  go_enter Try.func57, Try.ntmps57
  go_wp2
  have q0 := HH.out.2.2.cell 0 _ rfl
  have q1 := HH.out.2.2.cell 1 _ rfl
  have q2 := HH.out.2.2.cell 2 _ rfl
  have q3 := HH.out.2.2.cell 3 _ rfl
  simp only [World.size_setCell] at q0 q1 q2 q3
  refine bodyPost_ret (v := .agg #[.bool false, .int .i64 0, .int .i64 0, .slice none 0 0]) ?_ ?_ ?_
  · simp [results, Try.results57, go_sem, q0, q1, q2, q3]
  · rfl
  · exact ⟨rfl, HH.out.1, HH.out.2.1⟩

set_option maxHeartbeats 1600000 in
theorem dpin_c1 (h : DrS w d db W E f) (i : Nat) (hi : i < W) (pl : Nat) (hpl : (f i).pl = pl) (hp2 : pl < 4611686018427387904) (ev : Int) (hev : (f i).e = ev) (h2 : pl = 0) : Calls Try.prog 57 #[PV d, .pointer (some ⟨db, i * 7, none⟩)] w (DsE w d db W (E) (updF f i { f i with pl := 1, e := E }) [db] false 0 0) := by
  have hc : DrS ((w.setCell ⟨db, i * 7 + 1, none⟩ (.int .i64 1)).setCell ⟨db, i * 7 + 2, none⟩ (.int .i64 E)) d db W (E) (updF f i { f i with pl := 1, e := E }) := by
    have := (h.s1 hi 1).s2 hi E
    simp only [updF_same, updF_updF] at this
    exact this
  have hal := (Below.refl _ ((w.setCell ⟨db, i * 7 + 1, none⟩ (.int .i64 1)).setCell ⟨db, i * 7 + 2, none⟩ (.int .i64 E))).alloc (Nat.le_refl _) (.cells #[.bool false, .int .i64 0, .int .i64 0, .slice none 0 0] 41)
  have hc2 := (hc.below hal).below (Below.refl _ _).drew
  have ho : Off [db] w _ := ((((Off.refl [db] w).setCell (p := ⟨db, i * 7 + 1, none⟩) (by simp) (.int .i64 1)).setCell (p := ⟨db, i * 7 + 2, none⟩) (by simp) (.int .i64 E)).alloc (.cells #[.bool false, .int .i64 0, .int .i64 0, .slice none 0 0] 41)).drew
  have kr := (BlkL.new ((w.setCell ⟨db, i * 7 + 1, none⟩ (.int .i64 1)).setCell ⟨db, i * 7 + 2, none⟩ (.int .i64 E)) [.bool false, .int .i64 0, .int .i64 0, .slice none 0 0] 41).drew
  have k1 : w.cell? ⟨db, i * 7 + 1, none⟩ = some (.int .i64 ((f i).pl : Int)) := h.k (c := 1) hi (by omega)
  have k2 : w.cell? ⟨db, i * 7 + 2, none⟩ = some (.int .i64 (f i).e) := h.k (c := 2) hi (by omega)
  have f0 : w.frozen? ⟨db, i * 7, none⟩ = false := h.fr (c := 0) hi (by omega)
  have f1 := h.fr (i := i) (c := 1) hi (by omega)
  have f2 := h.fr (i := i) (c := 2) hi (by omega)
  have f4 := h.fr (i := i) (c := 4) hi (by omega)
  have f6 := h.fr (i := i) (c := 6) hi (by omega)
  have k4 : w.cell? ⟨db, i * 7 + 4, none⟩ = some (.bool (f i).pn) := h.k (c := 4) hi (by omega)
  have k6 : w.cell? ⟨db, i * 7 + 6, none⟩ = some (.int .i64 (f i).P) := h.k (c := 6) hi (by omega)
  have d0 : w.cell? ⟨d, 0, none⟩ = some (.int .i64 E) := h.hd.cell 0 _ rfl
  have d1 : w.cell? ⟨d, 1, none⟩ = some (.slice (some ⟨db, 0, none⟩) W W) := h.hd.cell 1 _ rfl
  have e0 : w.frozen? ⟨d, 0, none⟩ = false := h.hd.froz 0 (by simp)
  have lb := h.wk.lt
  have ld := h.hd.lt
  have hne := h.ne
  have hn1 : w.heap.size ≠ db := by omega
  have hn2 : w.heap.size ≠ d := by omega
  rw [hpl] at k1
  rw [hev] at k2
  subst h2
  rw [show (((0 : Nat) : Int)) = 0 from rfl] at k1
  have HH := Lib.hid (And.intro hc2 (And.intro ho kr))
  clear h hc hal hc2 ho kr hpl hev
  generalize f i = fi at *
  go_enter Try.func57, Try.ntmps57
  go_wp2
  go_region
  go_wp2
  have q0 := HH.out.2.2.cell 0 _ rfl
  have q1 := HH.out.2.2.cell 1 _ rfl
  have q2 := HH.out.2.2.cell 2 _ rfl
  have q3 := HH.out.2.2.cell 3 _ rfl
  simp only [World.size_setCell] at q0 q1 q2 q3
  refine bodyPost_ret (v := .agg #[.bool false, .int .i64 0, .int .i64 0, .slice none 0 0]) ?_ ?_ ?_
  · simp [results, Try.results57, go_sem, q0, q1, q2, q3]
  · rfl
  · exact ⟨rfl, HH.out.1, HH.out.2.1⟩

set_option maxHeartbeats 1600000 in
theorem dpin_c2 (h : DrS w d db W E f) (i : Nat) (hi : i < W) (pl : Nat) (hpl : (f i).pl = pl) (hp2 : pl < 4611686018427387904) (ev : Int) (hev : (f i).e = ev) (h2 : (pl + 1) % 2 = 1) (h3 : 1 ≤ pl) (hE : E ≠ ev) : Calls Try.prog 57 #[PV d, .pointer (some ⟨db, i * 7, none⟩)] w (DsE w d db W (E) (updF f i { f i with pl := pl + 1, e := E }) [db] false 0 0) := by
  have hc : DrS ((w.setCell ⟨db, i * 7 + 1, none⟩ (.int .i64 ((pl : Int) + 1))).setCell ⟨db, i * 7 + 2, none⟩ (.int .i64 E)) d db W (E) (updF f i { f i with pl := pl + 1, e := E }) := by
    have := (h.s1 hi (pl + 1)).s2 hi E
    simp only [updF_same, updF_updF] at this
    exact this
  have hal := (Below.refl _ ((w.setCell ⟨db, i * 7 + 1, none⟩ (.int .i64 ((pl : Int) + 1))).setCell ⟨db, i * 7 + 2, none⟩ (.int .i64 E))).alloc (Nat.le_refl _) (.cells #[.bool false, .int .i64 0, .int .i64 0, .slice none 0 0] 41)
  have hc2 := (hc.below hal).below (Below.refl _ _).drew
  have ho : Off [db] w _ := ((((Off.refl [db] w).setCell (p := ⟨db, i * 7 + 1, none⟩) (by simp) (.int .i64 ((pl : Int) + 1))).setCell (p := ⟨db, i * 7 + 2, none⟩) (by simp) (.int .i64 E)).alloc (.cells #[.bool false, .int .i64 0, .int .i64 0, .slice none 0 0] 41)).drew
  have kr := (BlkL.new ((w.setCell ⟨db, i * 7 + 1, none⟩ (.int .i64 ((pl : Int) + 1))).setCell ⟨db, i * 7 + 2, none⟩ (.int .i64 E)) [.bool false, .int .i64 0, .int .i64 0, .slice none 0 0] 41).drew
  have k1 : w.cell? ⟨db, i * 7 + 1, none⟩ = some (.int .i64 ((f i).pl : Int)) := h.k (c := 1) hi (by omega)
  have k2 : w.cell? ⟨db, i * 7 + 2, none⟩ = some (.int .i64 (f i).e) := h.k (c := 2) hi (by omega)
  have f0 : w.frozen? ⟨db, i * 7, none⟩ = false := h.fr (c := 0) hi (by omega)
  have f1 := h.fr (i := i) (c := 1) hi (by omega)
  have f2 := h.fr (i := i) (c := 2) hi (by omega)
  have f4 := h.fr (i := i) (c := 4) hi (by omega)
  have f6 := h.fr (i := i) (c := 6) hi (by omega)
  have k4 : w.cell? ⟨db, i * 7 + 4, none⟩ = some (.bool (f i).pn) := h.k (c := 4) hi (by omega)
  have k6 : w.cell? ⟨db, i * 7 + 6, none⟩ = some (.int .i64 (f i).P) := h.k (c := 6) hi (by omega)
  have d0 : w.cell? ⟨d, 0, none⟩ = some (.int .i64 E) := h.hd.cell 0 _ rfl
  have d1 : w.cell? ⟨d, 1, none⟩ = some (.slice (some ⟨db, 0, none⟩) W W) := h.hd.cell 1 _ rfl
  have e0 : w.frozen? ⟨d, 0, none⟩ = false := h.hd.froz 0 (by simp)
  have lb := h.wk.lt
  have ld := h.hd.lt
  have hne := h.ne
  have hn1 : w.heap.size ≠ db := by omega
  have hn2 : w.heap.size ≠ d := by omega
  rw [hpl] at k1
  rw [hev] at k2
  have t1 : IntKind.i64.wrap ((pl : Int) + 1) = (pl : Int) + 1 := IntWalk.i64_in _ (by omega)
  have t2 : ¬ ((pl : Int) + 1).tmod 2 = 0 := by rw [Int.tmod_eq_emod_of_nonneg (by omega)]; omega
  have t4 : (1 : Int) < (pl : Int) + 1 := by omega
  have HH := Lib.hid (And.intro hc2 (And.intro ho kr))
  clear h hc hal hc2 ho kr hpl hev
  generalize f i = fi at *
  go_enter Try.func57, Try.ntmps57
  go_wp2
  go_region
  go_wp2
  have q0 := HH.out.2.2.cell 0 _ rfl
  have q1 := HH.out.2.2.cell 1 _ rfl
  have q2 := HH.out.2.2.cell 2 _ rfl
  have q3 := HH.out.2.2.cell 3 _ rfl
  simp only [World.size_setCell] at q0 q1 q2 q3
  refine bodyPost_ret (v := .agg #[.bool false, .int .i64 0, .int .i64 0, .slice none 0 0]) ?_ ?_ ?_
  · simp [results, Try.results57, go_sem, q0, q1, q2, q3]
  · rfl
  · exact ⟨rfl, HH.out.1, HH.out.2.1⟩

theorem Off.setNew4 {S : List Nat} {w w' : World} (h : Off S w w') (v0 v1 v2 v3 : Value) : Off S w ((((w'.setCell ⟨w.heap.size, 0, none⟩ v0).setCell ⟨w.heap.size, 1, none⟩ v1).setCell ⟨w.heap.size, 2, none⟩ v2).setCell ⟨w.heap.size, 3, none⟩ v3) :=
  (((h.setNew (p := ⟨w.heap.size, 0, none⟩) (Nat.le_refl _) v0).setNew (p := ⟨w.heap.size, 1, none⟩) (Nat.le_refl _) v1).setNew (p := ⟨w.heap.size, 2, none⟩) (Nat.le_refl _) v2).setNew (p := ⟨w.heap.size, 3, none⟩) (Nat.le_refl _) v3

set_option maxHeartbeats 3200000 in
theorem dpin_b (h : DrS w d db W E f) (i : Nat) (hi : i < W) (pl : Nat) (hpl : (f i).pl = pl) (hp2 : pl < 4611686018427387904) (ev : Int) (hev : (f i).e = ev) (h2 : (pl + 1) % 2 = 1) (h3 : 1 ≤ pl) (hE : E = ev) : Calls Try.prog 57 #[PV d, .pointer (some ⟨db, i * 7, none⟩)] w (DsE w d db W (E) (updF f i { f i with pl := pl + 1, pn := true, op := 0 }) [db] true 0 E) := by
  have hc : DrS ((w.setCell ⟨db, i * 7 + 1, none⟩ (.int .i64 ((pl : Int) + 1))).setCell ⟨db, i * 7 + 4, none⟩ (.bool true)) d db W (E) (updF f i { f i with pl := pl + 1, pn := true }) := by
    have := (h.s1 hi (pl + 1)).s4 hi true
    simp only [updF_same, updF_updF] at this
    exact this
  have hal := (Below.refl _ ((w.setCell ⟨db, i * 7 + 1, none⟩ (.int .i64 ((pl : Int) + 1))).setCell ⟨db, i * 7 + 4, none⟩ (.bool true))).alloc (Nat.le_refl _) (.cells #[.bool false, .int .i64 0, .int .i64 0, .slice none 0 0] 41)
  have hc2 : DrS (((w.setCell ⟨db, i * 7 + 1, none⟩ (.int .i64 ((pl : Int) + 1))).setCell ⟨db, i * 7 + 4, none⟩ (.bool true)).alloc (.cells #[.bool false, .int .i64 0, .int .i64 0, .slice none 0 0] 41)).drew d db W (E) (updF f i { f i with pl := pl + 1, pn := true }) := (hc.below hal).below (Below.refl _ _).drew
  have ho : Off [db] w (((w.setCell ⟨db, i * 7 + 1, none⟩ (.int .i64 ((pl : Int) + 1))).setCell ⟨db, i * 7 + 4, none⟩ (.bool true)).alloc (.cells #[.bool false, .int .i64 0, .int .i64 0, .slice none 0 0] 41)).drew := ((((Off.refl [db] w).setCell (p := ⟨db, i * 7 + 1, none⟩) (by simp) (.int .i64 ((pl : Int) + 1))).setCell (p := ⟨db, i * 7 + 4, none⟩) (by simp) (.bool true)).alloc (.cells #[.bool false, .int .i64 0, .int .i64 0, .slice none 0 0] 41)).drew
  have kr : BlkL (((w.setCell ⟨db, i * 7 + 1, none⟩ (.int .i64 ((pl : Int) + 1))).setCell ⟨db, i * 7 + 4, none⟩ (.bool true)).alloc (.cells #[.bool false, .int .i64 0, .int .i64 0, .slice none 0 0] 41)).drew w.heap.size _ := (by have := (BlkL.new ((w.setCell ⟨db, i * 7 + 1, none⟩ (.int .i64 ((pl : Int) + 1))).setCell ⟨db, i * 7 + 4, none⟩ (.bool true)) [.bool false, .int .i64 0, .int .i64 0, .slice none 0 0] 41).drew; simpa only [World.size_setCell] using this)
  have hend := dend_any hc2 i hi 0 E
  simp only [updF_same, updF_updF] at hend
  have HEND := Lib.hid hend
  have k1 : w.cell? ⟨db, i * 7 + 1, none⟩ = some (.int .i64 ((f i).pl : Int)) := h.k (c := 1) hi (by omega)
  have k2 : w.cell? ⟨db, i * 7 + 2, none⟩ = some (.int .i64 (f i).e) := h.k (c := 2) hi (by omega)
  have f0 : w.frozen? ⟨db, i * 7, none⟩ = false := h.fr (c := 0) hi (by omega)
  have f1 := h.fr (i := i) (c := 1) hi (by omega)
  have f2 := h.fr (i := i) (c := 2) hi (by omega)
  have f4 := h.fr (i := i) (c := 4) hi (by omega)
  have f6 := h.fr (i := i) (c := 6) hi (by omega)
  have k4 : w.cell? ⟨db, i * 7 + 4, none⟩ = some (.bool (f i).pn) := h.k (c := 4) hi (by omega)
  have k6 : w.cell? ⟨db, i * 7 + 6, none⟩ = some (.int .i64 (f i).P) := h.k (c := 6) hi (by omega)
  have d0 : w.cell? ⟨d, 0, none⟩ = some (.int .i64 E) := h.hd.cell 0 _ rfl
  have d1 : w.cell? ⟨d, 1, none⟩ = some (.slice (some ⟨db, 0, none⟩) W W) := h.hd.cell 1 _ rfl
  have e0 : w.frozen? ⟨d, 0, none⟩ = false := h.hd.froz 0 (by simp)
  have lb := h.wk.lt
  have ld := h.hd.lt
  have hne := h.ne
  have hn1 : w.heap.size ≠ db := by omega
  have hn2 : w.heap.size ≠ d := by omega
  rw [hpl] at k1
  rw [hev] at k2
  have t1 : IntKind.i64.wrap ((pl : Int) + 1) = (pl : Int) + 1 := IntWalk.i64_in _ (by omega)
  have t2 : ¬ ((pl : Int) + 1).tmod 2 = 0 := by rw [Int.tmod_eq_emod_of_nonneg (by omega)]; omega
  have t4 : (1 : Int) < (pl : Int) + 1 := by omega
  rw [← hE] at k2
  clear hE
  have HH := Lib.hid (And.intro ho kr)
  clear h hc hal hc2 ho kr hpl hev hend
  generalize f i = fi at *
  go_enter Try.func57, Try.ntmps57
  go_wp2_with fail
  go_region
  go_wp2_with fail
  with_reducible refine HEND.out.mono ?_
  rintro e' w5 ⟨rfl, h5, o5⟩
  have kr5 := HH.out.2.off o5 (by simpa using hn1)
  have z0 := kr5.cell 0 _ rfl
  have z1 := kr5.cell 1 _ rfl
  have z2 := kr5.cell 2 _ rfl
  have z3 := kr5.cell 3 _ rfl
  have y0 := kr5.froz 0 (by simp)
  have y1 := kr5.froz 1 (by simp)
  have y2 := kr5.froz 2 (by simp)
  have y3 := kr5.froz 3 (by simp)
  have zl := kr5.lt
  have H5 := Lib.hid (And.intro h5 (And.intro o5 kr5))
  clear h5 o5 kr5
  go_wp2
  obtain ⟨h5, o5, kr5⟩ := H5.out
  have hp := off_put4 (Off.refl [w.heap.size] w5) (r := w.heap.size) (by simp) (.bool true) (.int .i64 0) (.int .i64 E) (.slice none 0 0)
  have kf := kr5.put4 (.bool true) (.int .i64 0) (.int .i64 E) (.slice none 0 0)
  have q0 := kf.cell 0 _ rfl
  have q1 := kf.cell 1 _ rfl
  have q2 := kf.cell 2 _ rfl
  have q3 := kf.cell 3 _ rfl
  refine bodyPost_ret (v := .agg #[.bool true, .int .i64 0, .int .i64 E, .slice none 0 0]) ?_ ?_ ?_
  · simp [results, Try.results57, go_sem, q0, q1, q2, q3]
  · rfl
  · exact ⟨rfl, h5.off hp (by simpa using Ne.symm hn2) (by simpa using Ne.symm hn1), (HH.out.1.trans (o5.mono (by simp))).setNew4 _ _ _ _⟩

end
end Go.Proofs.Ytpjgpiiibgogeaa


/- The document's Epochs: advance. -/
namespace Go.Proofs.Ytpjgpiiibgogeaa
open Go.RowKit
set_option maxRecDepth 100000
set_option linter.unusedVariables false

section
variable {w w' : World} {d db W : Nat} {E : Int} {f : Nat → DkV} {S : List Nat}

set_option maxHeartbeats 1600000 in
theorem dadv_0 (h : DrS w d db W E f) (i : Nat) (hi : i < W) (pl : Nat) (hpl : (f i).pl = pl) (hp2 : pl < 4611686018427387904) (ev : Int) (hev : (f i).e = ev) (h2 : pl = 0) (hW : W ≤ 64) : Calls Try.prog 59 #[PV d, .pointer (some ⟨db, i * 7, none⟩)] w (DsE w d db W (E) (updF f i { f i with pl := 1, e := E }) [db] false 0 0) := by
  have hc : DrS ((w.setCell ⟨db, i * 7 + 1, none⟩ (.int .i64 1)).setCell ⟨db, i * 7 + 2, none⟩ (.int .i64 E)) d db W (E) (updF f i { f i with pl := 1, e := E }) := by
    have := (h.s1 hi 1).s2 hi E
    simp only [updF_same, updF_updF] at this
    exact this
  have hal := (Below.refl _ ((w.setCell ⟨db, i * 7 + 1, none⟩ (.int .i64 1)).setCell ⟨db, i * 7 + 2, none⟩ (.int .i64 E))).alloc (Nat.le_refl _) (.cells #[.bool false, .int .i64 0, .int .i64 0, .slice none 0 0] 41)
  have hc2 := (hc.below hal)
  have ho : Off [db] w _ := ((((Off.refl [db] w).setCell (p := ⟨db, i * 7 + 1, none⟩) (by simp) (.int .i64 1)).setCell (p := ⟨db, i * 7 + 2, none⟩) (by simp) (.int .i64 E)).alloc (.cells #[.bool false, .int .i64 0, .int .i64 0, .slice none 0 0] 41))
  have kr := (BlkL.new ((w.setCell ⟨db, i * 7 + 1, none⟩ (.int .i64 1)).setCell ⟨db, i * 7 + 2, none⟩ (.int .i64 E)) [.bool false, .int .i64 0, .int .i64 0, .slice none 0 0] 41)
  have k1 : w.cell? ⟨db, i * 7 + 1, none⟩ = some (.int .i64 ((f i).pl : Int)) := h.k (c := 1) hi (by omega)
  have k2 : w.cell? ⟨db, i * 7 + 2, none⟩ = some (.int .i64 (f i).e) := h.k (c := 2) hi (by omega)
  have f0 : w.frozen? ⟨db, i * 7, none⟩ = false := h.fr (c := 0) hi (by omega)
  have f1 := h.fr (i := i) (c := 1) hi (by omega)
  have f2 := h.fr (i := i) (c := 2) hi (by omega)
  have f4 := h.fr (i := i) (c := 4) hi (by omega)
  have f6 := h.fr (i := i) (c := 6) hi (by omega)
  have k4 : w.cell? ⟨db, i * 7 + 4, none⟩ = some (.bool (f i).pn) := h.k (c := 4) hi (by omega)
  have k6 : w.cell? ⟨db, i * 7 + 6, none⟩ = some (.int .i64 (f i).P) := h.k (c := 6) hi (by omega)
  have d0 : w.cell? ⟨d, 0, none⟩ = some (.int .i64 E) := h.hd.cell 0 _ rfl
  have d1 : w.cell? ⟨d, 1, none⟩ = some (.slice (some ⟨db, 0, none⟩) W W) := h.hd.cell 1 _ rfl
  have e0 : w.frozen? ⟨d, 0, none⟩ = false := h.hd.froz 0 (by simp)
  have lb := h.wk.lt
  have ld := h.hd.lt
  have hne := h.ne
  have hn1 : w.heap.size ≠ db := by omega
  have hn2 : w.heap.size ≠ d := by omega
  rw [hpl] at k1
  rw [hev] at k2
  subst h2
  rw [show (((0 : Nat) : Int)) = 0 from rfl] at k1
  have HH := Lib.hid (And.intro hc2 (And.intro ho kr))
  clear h hc hal hc2 ho kr hpl hev
  generalize f i = fi at *
  go_enter Try.func59, Try.ntmps59
  go_wp2
  have q0 := HH.out.2.2.cell 0 _ rfl
  have q1 := HH.out.2.2.cell 1 _ rfl
  have q2 := HH.out.2.2.cell 2 _ rfl
  have q3 := HH.out.2.2.cell 3 _ rfl
  simp only [World.size_setCell] at q0 q1 q2 q3
  refine bodyPost_ret (v := .agg #[.bool false, .int .i64 0, .int .i64 0, .slice none 0 0]) ?_ ?_ ?_
  · simp [results, Try.results59, go_sem, q0, q1, q2, q3]
  · rfl
  · exact ⟨rfl, HH.out.1, HH.out.2.1⟩

set_option maxHeartbeats 1600000 in
theorem dadv_ok0 (h : DrS w d db W E f) (i : Nat) (hi : i < W) (j : Nat) (hj : j < W) (hpl : (f i).pl = j + 1) (hW : W ≤ 64) (ev : Int) (hev : (f i).e = ev) (pv : Int) (hpv : (f j).P = pv) (hb1 : -4611686018427387904 ≤ ev) (hb2 : ev ≤ 4611686018427387904) (hv : pv = 0) : Calls Try.prog 59 #[PV d, .pointer (some ⟨db, i * 7, none⟩)] w (DsE w d db W (E) (updF f i { f i with pl := j + 2 }) [db] false 0 0) := by
  have hc : DrS (w.setCell ⟨db, i * 7 + 1, none⟩ (.int .i64 ((j : Int) + 1 + 1))) d db W (E) (updF f i { f i with pl := j + 2 }) := by
    have := h.s1 hi (j + 2)
    exact this
  have hal := (Below.refl _ (w.setCell ⟨db, i * 7 + 1, none⟩ (.int .i64 ((j : Int) + 1 + 1)))).alloc (Nat.le_refl _) (.cells #[.bool false, .int .i64 0, .int .i64 0, .slice none 0 0] 41)
  have hc2 := (hc.below hal)
  have ho : Off [db] w _ := (((Off.refl [db] w).setCell (p := ⟨db, i * 7 + 1, none⟩) (by simp) (.int .i64 ((j : Int) + 1 + 1))).alloc (.cells #[.bool false, .int .i64 0, .int .i64 0, .slice none 0 0] 41))
  have kr := (BlkL.new (w.setCell ⟨db, i * 7 + 1, none⟩ (.int .i64 ((j : Int) + 1 + 1))) [.bool false, .int .i64 0, .int .i64 0, .slice none 0 0] 41)
  have k1 : w.cell? ⟨db, i * 7 + 1, none⟩ = some (.int .i64 ((f i).pl : Int)) := h.k (c := 1) hi (by omega)
  have k2 : w.cell? ⟨db, i * 7 + 2, none⟩ = some (.int .i64 (f i).e) := h.k (c := 2) hi (by omega)
  have f0 : w.frozen? ⟨db, i * 7, none⟩ = false := h.fr (c := 0) hi (by omega)
  have f1 := h.fr (i := i) (c := 1) hi (by omega)
  have f2 := h.fr (i := i) (c := 2) hi (by omega)
  have f4 := h.fr (i := i) (c := 4) hi (by omega)
  have f6 := h.fr (i := i) (c := 6) hi (by omega)
  have k4 : w.cell? ⟨db, i * 7 + 4, none⟩ = some (.bool (f i).pn) := h.k (c := 4) hi (by omega)
  have k6 : w.cell? ⟨db, i * 7 + 6, none⟩ = some (.int .i64 (f i).P) := h.k (c := 6) hi (by omega)
  have d0 : w.cell? ⟨d, 0, none⟩ = some (.int .i64 E) := h.hd.cell 0 _ rfl
  have d1 : w.cell? ⟨d, 1, none⟩ = some (.slice (some ⟨db, 0, none⟩) W W) := h.hd.cell 1 _ rfl
  have e0 : w.frozen? ⟨d, 0, none⟩ = false := h.hd.froz 0 (by simp)
  have lb := h.wk.lt
  have ld := h.hd.lt
  have hne := h.ne
  have hn1 : w.heap.size ≠ db := by omega
  have hn2 : w.heap.size ≠ d := by omega
  have k6j : w.cell? ⟨db, j * 7 + 6, none⟩ = some (.int .i64 (f j).P) := h.k (c := 6) hj (by omega)
  rw [hpl] at k1
  rw [hev] at k2
  have k1 : w.cell? ⟨db, i * 7 + 1, none⟩ = some (.int .i64 ((j : Int) + 1)) := k1
  have t5 : IntKind.i64.wrap ((j : Int) + 1 - 1) = (j : Int) := by rw [Int.add_sub_cancel]; exact IntWalk.i64_in _ (by omega)
  have t6 : IntKind.i64.wrap (j : Int) = (j : Int) := IntWalk.i64_in _ (by omega)
  have t7 : IntKind.i64.wrap ((j : Int) + 1 + 1) = (j : Int) + 1 + 1 := IntWalk.i64_in _ (by omega)
  have t8 : IntKind.i64.wrap (ev + 1) = ev + 1 := IntWalk.i64_in _ (by omega)
  have j0 : ¬ (j : Int) < 0 := by omega
  have j1 : (j : Int) < (W : Int) := by omega
  have j2 : (0 : Int) ≤ (j : Int) := by omega
  have n1 : ¬ j * 7 + 6 = i * 7 + 1 := by omega
  have n2 : ¬ i * 7 + 1 = j * 7 + 6 := by omega
  rw [hpv] at k6j
  clear hpv
  subst hv
  have HH := Lib.hid (And.intro hc2 (And.intro ho kr))
  clear h hc hal hc2 ho kr hpl hev
  generalize f i = fi at *
  go_enter Try.func59, Try.ntmps59
  go_wp2
  have q0 := HH.out.2.2.cell 0 _ rfl
  have q1 := HH.out.2.2.cell 1 _ rfl
  have q2 := HH.out.2.2.cell 2 _ rfl
  have q3 := HH.out.2.2.cell 3 _ rfl
  simp only [World.size_setCell] at q0 q1 q2 q3
  refine bodyPost_ret (v := .agg #[.bool false, .int .i64 0, .int .i64 0, .slice none 0 0]) ?_ ?_ ?_
  · simp [results, Try.results59, go_sem, q0, q1, q2, q3]
  · rfl
  · exact ⟨rfl, HH.out.1, HH.out.2.1⟩

set_option maxHeartbeats 1600000 in
theorem dadv_ok1 (h : DrS w d db W E f) (i : Nat) (hi : i < W) (j : Nat) (hj : j < W) (hpl : (f i).pl = j + 1) (hW : W ≤ 64) (ev : Int) (hev : (f i).e = ev) (pv : Int) (hpv : (f j).P = pv) (hb1 : -4611686018427387904 ≤ ev) (hb2 : ev ≤ 4611686018427387904) (hv0 : pv ≠ 0) (hv : pv = ev + 1) : Calls Try.prog 59 #[PV d, .pointer (some ⟨db, i * 7, none⟩)] w (DsE w d db W (E) (updF f i { f i with pl := j + 2 }) [db] false 0 0) := by
  have hc : DrS (w.setCell ⟨db, i * 7 + 1, none⟩ (.int .i64 ((j : Int) + 1 + 1))) d db W (E) (updF f i { f i with pl := j + 2 }) := by
    have := h.s1 hi (j + 2)
    exact this
  have hal := (Below.refl _ (w.setCell ⟨db, i * 7 + 1, none⟩ (.int .i64 ((j : Int) + 1 + 1)))).alloc (Nat.le_refl _) (.cells #[.bool false, .int .i64 0, .int .i64 0, .slice none 0 0] 41)
  have hc2 := (hc.below hal)
  have ho : Off [db] w _ := (((Off.refl [db] w).setCell (p := ⟨db, i * 7 + 1, none⟩) (by simp) (.int .i64 ((j : Int) + 1 + 1))).alloc (.cells #[.bool false, .int .i64 0, .int .i64 0, .slice none 0 0] 41))
  have kr := (BlkL.new (w.setCell ⟨db, i * 7 + 1, none⟩ (.int .i64 ((j : Int) + 1 + 1))) [.bool false, .int .i64 0, .int .i64 0, .slice none 0 0] 41)
  have k1 : w.cell? ⟨db, i * 7 + 1, none⟩ = some (.int .i64 ((f i).pl : Int)) := h.k (c := 1) hi (by omega)
  have k2 : w.cell? ⟨db, i * 7 + 2, none⟩ = some (.int .i64 (f i).e) := h.k (c := 2) hi (by omega)
  have f0 : w.frozen? ⟨db, i * 7, none⟩ = false := h.fr (c := 0) hi (by omega)
  have f1 := h.fr (i := i) (c := 1) hi (by omega)
  have f2 := h.fr (i := i) (c := 2) hi (by omega)
  have f4 := h.fr (i := i) (c := 4) hi (by omega)
  have f6 := h.fr (i := i) (c := 6) hi (by omega)
  have k4 : w.cell? ⟨db, i * 7 + 4, none⟩ = some (.bool (f i).pn) := h.k (c := 4) hi (by omega)
  have k6 : w.cell? ⟨db, i * 7 + 6, none⟩ = some (.int .i64 (f i).P) := h.k (c := 6) hi (by omega)
  have d0 : w.cell? ⟨d, 0, none⟩ = some (.int .i64 E) := h.hd.cell 0 _ rfl
  have d1 : w.cell? ⟨d, 1, none⟩ = some (.slice (some ⟨db, 0, none⟩) W W) := h.hd.cell 1 _ rfl
  have e0 : w.frozen? ⟨d, 0, none⟩ = false := h.hd.froz 0 (by simp)
  have lb := h.wk.lt
  have ld := h.hd.lt
  have hne := h.ne
  have hn1 : w.heap.size ≠ db := by omega
  have hn2 : w.heap.size ≠ d := by omega
  have k6j : w.cell? ⟨db, j * 7 + 6, none⟩ = some (.int .i64 (f j).P) := h.k (c := 6) hj (by omega)
  rw [hpl] at k1
  rw [hev] at k2
  have k1 : w.cell? ⟨db, i * 7 + 1, none⟩ = some (.int .i64 ((j : Int) + 1)) := k1
  have t5 : IntKind.i64.wrap ((j : Int) + 1 - 1) = (j : Int) := by rw [Int.add_sub_cancel]; exact IntWalk.i64_in _ (by omega)
  have t6 : IntKind.i64.wrap (j : Int) = (j : Int) := IntWalk.i64_in _ (by omega)
  have t7 : IntKind.i64.wrap ((j : Int) + 1 + 1) = (j : Int) + 1 + 1 := IntWalk.i64_in _ (by omega)
  have t8 : IntKind.i64.wrap (ev + 1) = ev + 1 := IntWalk.i64_in _ (by omega)
  have j0 : ¬ (j : Int) < 0 := by omega
  have j1 : (j : Int) < (W : Int) := by omega
  have j2 : (0 : Int) ≤ (j : Int) := by omega
  have n1 : ¬ j * 7 + 6 = i * 7 + 1 := by omega
  have n2 : ¬ i * 7 + 1 = j * 7 + 6 := by omega
  rw [hpv] at k6j
  clear hpv
  have b1 : (pv != 0) = true := by simpa using hv0
  have b2 : (pv != ev + 1) = false := by simp [hv]
  have HH := Lib.hid (And.intro hc2 (And.intro ho kr))
  clear h hc hal hc2 ho kr hpl hev
  generalize f i = fi at *
  go_enter Try.func59, Try.ntmps59
  go_wp2
  have q0 := HH.out.2.2.cell 0 _ rfl
  have q1 := HH.out.2.2.cell 1 _ rfl
  have q2 := HH.out.2.2.cell 2 _ rfl
  have q3 := HH.out.2.2.cell 3 _ rfl
  simp only [World.size_setCell] at q0 q1 q2 q3
  refine bodyPost_ret (v := .agg #[.bool false, .int .i64 0, .int .i64 0, .slice none 0 0]) ?_ ?_ ?_
  · simp [results, Try.results59, go_sem, q0, q1, q2, q3]
  · rfl
  · exact ⟨rfl, HH.out.1, HH.out.2.1⟩

set_option maxHeartbeats 3200000 in
theorem dadv_busy (h : DrS w d db W E f) (i : Nat) (hi : i < W) (j : Nat) (hj : j < W) (hpl : (f i).pl = j + 1) (hW : W ≤ 64) (ev : Int) (hev : (f i).e = ev) (pv : Int) (hpv : (f j).P = pv) (hb1 : -4611686018427387904 ≤ ev) (hb2 : ev ≤ 4611686018427387904) (hv0 : pv ≠ 0) (hv : pv ≠ ev + 1) : Calls Try.prog 59 #[PV d, .pointer (some ⟨db, i * 7, none⟩)] w (DsE w d db W (E) (updF f i { f i with pl := j + 2, op := 0 }) [db] true 9 0) := by
  have hc : DrS (w.setCell ⟨db, i * 7 + 1, none⟩ (.int .i64 ((j : Int) + 1 + 1))) d db W (E) (updF f i { f i with pl := j + 2 }) := by
    have := h.s1 hi (j + 2)
    exact this
  have hal := (Below.refl _ (w.setCell ⟨db, i * 7 + 1, none⟩ (.int .i64 ((j : Int) + 1 + 1)))).alloc (Nat.le_refl _) (.cells #[.bool false, .int .i64 0, .int .i64 0, .slice none 0 0] 41)
  have hc2 : DrS ((w.setCell ⟨db, i * 7 + 1, none⟩ (.int .i64 ((j : Int) + 1 + 1))).alloc (.cells #[.bool false, .int .i64 0, .int .i64 0, .slice none 0 0] 41)) d db W (E) (updF f i { f i with pl := j + 2 }) := (hc.below hal)
  have ho : Off [db] w ((w.setCell ⟨db, i * 7 + 1, none⟩ (.int .i64 ((j : Int) + 1 + 1))).alloc (.cells #[.bool false, .int .i64 0, .int .i64 0, .slice none 0 0] 41)) := (((Off.refl [db] w).setCell (p := ⟨db, i * 7 + 1, none⟩) (by simp) (.int .i64 ((j : Int) + 1 + 1))).alloc (.cells #[.bool false, .int .i64 0, .int .i64 0, .slice none 0 0] 41))
  have kr : BlkL ((w.setCell ⟨db, i * 7 + 1, none⟩ (.int .i64 ((j : Int) + 1 + 1))).alloc (.cells #[.bool false, .int .i64 0, .int .i64 0, .slice none 0 0] 41)) w.heap.size _ := (by have := (BlkL.new (w.setCell ⟨db, i * 7 + 1, none⟩ (.int .i64 ((j : Int) + 1 + 1))) [.bool false, .int .i64 0, .int .i64 0, .slice none 0 0] 41); simpa only [World.size_setCell] using this)
  have hend := dend_any hc2 i hi 9 0
  simp only [updF_same, updF_updF] at hend
  have HEND := Lib.hid hend
  have k1 : w.cell? ⟨db, i * 7 + 1, none⟩ = some (.int .i64 ((f i).pl : Int)) := h.k (c := 1) hi (by omega)
  have k2 : w.cell? ⟨db, i * 7 + 2, none⟩ = some (.int .i64 (f i).e) := h.k (c := 2) hi (by omega)
  have f0 : w.frozen? ⟨db, i * 7, none⟩ = false := h.fr (c := 0) hi (by omega)
  have f1 := h.fr (i := i) (c := 1) hi (by omega)
  have f2 := h.fr (i := i) (c := 2) hi (by omega)
  have f4 := h.fr (i := i) (c := 4) hi (by omega)
  have f6 := h.fr (i := i) (c := 6) hi (by omega)
  have k4 : w.cell? ⟨db, i * 7 + 4, none⟩ = some (.bool (f i).pn) := h.k (c := 4) hi (by omega)
  have k6 : w.cell? ⟨db, i * 7 + 6, none⟩ = some (.int .i64 (f i).P) := h.k (c := 6) hi (by omega)
  have d0 : w.cell? ⟨d, 0, none⟩ = some (.int .i64 E) := h.hd.cell 0 _ rfl
  have d1 : w.cell? ⟨d, 1, none⟩ = some (.slice (some ⟨db, 0, none⟩) W W) := h.hd.cell 1 _ rfl
  have e0 : w.frozen? ⟨d, 0, none⟩ = false := h.hd.froz 0 (by simp)
  have lb := h.wk.lt
  have ld := h.hd.lt
  have hne := h.ne
  have hn1 : w.heap.size ≠ db := by omega
  have hn2 : w.heap.size ≠ d := by omega
  have k6j : w.cell? ⟨db, j * 7 + 6, none⟩ = some (.int .i64 (f j).P) := h.k (c := 6) hj (by omega)
  rw [hpl] at k1
  rw [hev] at k2
  have k1 : w.cell? ⟨db, i * 7 + 1, none⟩ = some (.int .i64 ((j : Int) + 1)) := k1
  have t5 : IntKind.i64.wrap ((j : Int) + 1 - 1) = (j : Int) := by rw [Int.add_sub_cancel]; exact IntWalk.i64_in _ (by omega)
  have t6 : IntKind.i64.wrap (j : Int) = (j : Int) := IntWalk.i64_in _ (by omega)
  have t7 : IntKind.i64.wrap ((j : Int) + 1 + 1) = (j : Int) + 1 + 1 := IntWalk.i64_in _ (by omega)
  have t8 : IntKind.i64.wrap (ev + 1) = ev + 1 := IntWalk.i64_in _ (by omega)
  have j0 : ¬ (j : Int) < 0 := by omega
  have j1 : (j : Int) < (W : Int) := by omega
  have j2 : (0 : Int) ≤ (j : Int) := by omega
  have n1 : ¬ j * 7 + 6 = i * 7 + 1 := by omega
  have n2 : ¬ i * 7 + 1 = j * 7 + 6 := by omega
  rw [hpv] at k6j
  clear hpv
  have b1 : (pv != 0) = true := by simpa using hv0
  have b2 : (pv != ev + 1) = true := by simpa using hv
  have HH := Lib.hid (And.intro ho kr)
  clear h hc hal hc2 ho kr hpl hev hend
  generalize f i = fi at *
  go_enter Try.func59, Try.ntmps59
  go_wp2_with fail
  with_reducible refine HEND.out.mono ?_
  rintro e' w5 ⟨rfl, h5, o5⟩
  have kr5 := HH.out.2.off o5 (by simpa using hn1)
  have z0 := kr5.cell 0 _ rfl
  have z1 := kr5.cell 1 _ rfl
  have z2 := kr5.cell 2 _ rfl
  have z3 := kr5.cell 3 _ rfl
  have y0 := kr5.froz 0 (by simp)
  have y1 := kr5.froz 1 (by simp)
  have y2 := kr5.froz 2 (by simp)
  have y3 := kr5.froz 3 (by simp)
  have zl := kr5.lt
  have H5 := Lib.hid (And.intro h5 (And.intro o5 kr5))
  clear h5 o5 kr5
  go_wp2
  obtain ⟨h5, o5, kr5⟩ := H5.out
  have hp := off_put4 (Off.refl [w.heap.size] w5) (r := w.heap.size) (by simp) (.bool true) (.int .i64 9) (.int .i64 0) (.slice none 0 0)
  have kf := kr5.put4 (.bool true) (.int .i64 9) (.int .i64 0) (.slice none 0 0)
  have q0 := kf.cell 0 _ rfl
  have q1 := kf.cell 1 _ rfl
  have q2 := kf.cell 2 _ rfl
  have q3 := kf.cell 3 _ rfl
  refine bodyPost_ret (v := .agg #[.bool true, .int .i64 9, .int .i64 0, .slice none 0 0]) ?_ ?_ ?_
  · simp [results, Try.results59, go_sem, q0, q1, q2, q3]
  · rfl
  · exact ⟨rfl, h5.off hp (by simpa using Ne.symm hn2) (by simpa using Ne.symm hn1), (HH.out.1.trans (o5.mono (by simp))).setNew4 _ _ _ _⟩

set_option maxHeartbeats 3200000 in
theorem dadv_no (h : DrS w d db W E f) (i : Nat) (hi : i < W) (hpl : (f i).pl = W + 1) (hW : W ≤ 64) (ev : Int) (hev : (f i).e = ev) (hE : E ≠ ev) : Calls Try.prog 59 #[PV d, .pointer (some ⟨db, i * 7, none⟩)] w (DsE w d db W (E) (updF f i { f i with pl := W + 2, op := 0 }) [db] true 0 0) := by
  have hc : DrS (w.setCell ⟨db, i * 7 + 1, none⟩ (.int .i64 ((W : Int) + 1 + 1))) d db W (E) (updF f i { f i with pl := W + 2 }) := by
    have := h.s1 hi (W + 2)
    exact this
  have hal := (Below.refl _ (w.setCell ⟨db, i * 7 + 1, none⟩ (.int .i64 ((W : Int) + 1 + 1)))).alloc (Nat.le_refl _) (.cells #[.bool false, .int .i64 0, .int .i64 0, .slice none 0 0] 41)
  have hc2 : DrS ((w.setCell ⟨db, i * 7 + 1, none⟩ (.int .i64 ((W : Int) + 1 + 1))).alloc (.cells #[.bool false, .int .i64 0, .int .i64 0, .slice none 0 0] 41)).drew d db W (E) (updF f i { f i with pl := W + 2 }) := (hc.below hal).below (Below.refl _ _).drew
  have ho : Off [db] w ((w.setCell ⟨db, i * 7 + 1, none⟩ (.int .i64 ((W : Int) + 1 + 1))).alloc (.cells #[.bool false, .int .i64 0, .int .i64 0, .slice none 0 0] 41)).drew := (((Off.refl [db] w).setCell (p := ⟨db, i * 7 + 1, none⟩) (by simp) (.int .i64 ((W : Int) + 1 + 1))).alloc (.cells #[.bool false, .int .i64 0, .int .i64 0, .slice none 0 0] 41)).drew
  have kr : BlkL ((w.setCell ⟨db, i * 7 + 1, none⟩ (.int .i64 ((W : Int) + 1 + 1))).alloc (.cells #[.bool false, .int .i64 0, .int .i64 0, .slice none 0 0] 41)).drew w.heap.size _ := (by have := (BlkL.new (w.setCell ⟨db, i * 7 + 1, none⟩ (.int .i64 ((W : Int) + 1 + 1))) [.bool false, .int .i64 0, .int .i64 0, .slice none 0 0] 41).drew; simpa only [World.size_setCell] using this)
  have hend := dend_any hc2 i hi 0 0
  simp only [updF_same, updF_updF] at hend
  have HEND := Lib.hid hend
  have k1 : w.cell? ⟨db, i * 7 + 1, none⟩ = some (.int .i64 ((f i).pl : Int)) := h.k (c := 1) hi (by omega)
  have k2 : w.cell? ⟨db, i * 7 + 2, none⟩ = some (.int .i64 (f i).e) := h.k (c := 2) hi (by omega)
  have f0 : w.frozen? ⟨db, i * 7, none⟩ = false := h.fr (c := 0) hi (by omega)
  have f1 := h.fr (i := i) (c := 1) hi (by omega)
  have f2 := h.fr (i := i) (c := 2) hi (by omega)
  have f4 := h.fr (i := i) (c := 4) hi (by omega)
  have f6 := h.fr (i := i) (c := 6) hi (by omega)
  have k4 : w.cell? ⟨db, i * 7 + 4, none⟩ = some (.bool (f i).pn) := h.k (c := 4) hi (by omega)
  have k6 : w.cell? ⟨db, i * 7 + 6, none⟩ = some (.int .i64 (f i).P) := h.k (c := 6) hi (by omega)
  have d0 : w.cell? ⟨d, 0, none⟩ = some (.int .i64 E) := h.hd.cell 0 _ rfl
  have d1 : w.cell? ⟨d, 1, none⟩ = some (.slice (some ⟨db, 0, none⟩) W W) := h.hd.cell 1 _ rfl
  have e0 : w.frozen? ⟨d, 0, none⟩ = false := h.hd.froz 0 (by simp)
  have lb := h.wk.lt
  have ld := h.hd.lt
  have hne := h.ne
  have hn1 : w.heap.size ≠ db := by omega
  have hn2 : w.heap.size ≠ d := by omega
  rw [hpl] at k1
  rw [hev] at k2
  have k1 : w.cell? ⟨db, i * 7 + 1, none⟩ = some (.int .i64 ((W : Int) + 1)) := k1
  have t5 : IntKind.i64.wrap ((W : Int) + 1 - 1) = (W : Int) := by rw [Int.add_sub_cancel]; exact IntWalk.i64_in _ (by omega)
  have t6 : IntKind.i64.wrap (W : Int) = (W : Int) := IntWalk.i64_in _ (by omega)
  have t7 : IntKind.i64.wrap ((W : Int) + 1 + 1) = (W : Int) + 1 + 1 := IntWalk.i64_in _ (by omega)
  have j0 : ¬ (W : Int) < 0 := by omega
  have j1 : ¬ (W : Int) < (W : Int) := by omega
  have b1 : (E != ev) = true := by simpa using hE
  have HH := Lib.hid (And.intro ho kr)
  clear h hc hal hc2 ho kr hpl hev hend
  generalize f i = fi at *
  go_enter Try.func59, Try.ntmps59
  go_wp2_with fail
  go_region
  go_wp2_with fail
  with_reducible refine HEND.out.mono ?_
  rintro e' w5 ⟨rfl, h5, o5⟩
  have kr5 := HH.out.2.off o5 (by simpa using hn1)
  have z0 := kr5.cell 0 _ rfl
  have z1 := kr5.cell 1 _ rfl
  have z2 := kr5.cell 2 _ rfl
  have z3 := kr5.cell 3 _ rfl
  have y0 := kr5.froz 0 (by simp)
  have y1 := kr5.froz 1 (by simp)
  have y2 := kr5.froz 2 (by simp)
  have y3 := kr5.froz 3 (by simp)
  have zl := kr5.lt
  have H5 := Lib.hid (And.intro h5 (And.intro o5 kr5))
  clear h5 o5 kr5
  go_wp2
  obtain ⟨h5, o5, kr5⟩ := H5.out
  have hp := off_put4 (Off.refl [w.heap.size] w5) (r := w.heap.size) (by simp) (.bool true) (.int .i64 0) (.int .i64 0) (.slice none 0 0)
  have kf := kr5.put4 (.bool true) (.int .i64 0) (.int .i64 0) (.slice none 0 0)
  have q0 := kf.cell 0 _ rfl
  have q1 := kf.cell 1 _ rfl
  have q2 := kf.cell 2 _ rfl
  have q3 := kf.cell 3 _ rfl
  refine bodyPost_ret (v := .agg #[.bool true, .int .i64 0, .int .i64 0, .slice none 0 0]) ?_ ?_ ?_
  · simp [results, Try.results59, go_sem, q0, q1, q2, q3]
  · rfl
  · exact ⟨rfl, h5.off hp (by simpa using Ne.symm hn2) (by simpa using Ne.symm hn1), (HH.out.1.trans (o5.mono (by simp))).setNew4 _ _ _ _⟩

set_option maxHeartbeats 3200000 in
theorem dadv_yes (h : DrS w d db W E f) (i : Nat) (hi : i < W) (hpl : (f i).pl = W + 1) (hW : W ≤ 64) (ev : Int) (hev : (f i).e = ev) (hE : E = ev) (hb1 : -4611686018427387904 ≤ E) (hb2 : E ≤ 4611686018427387904) : Calls Try.prog 59 #[PV d, .pointer (some ⟨db, i * 7, none⟩)] w (DsE w d db W (E + 1) (updF f i { f i with pl := W + 2, op := 0 }) [d, db] true 0 (E + 1)) := by
  have hc : DrS ((w.setCell ⟨db, i * 7 + 1, none⟩ (.int .i64 ((W : Int) + 1 + 1))).setCell ⟨d, 0, none⟩ (.int .i64 (E + 1))) d db W (E + 1) (updF f i { f i with pl := W + 2 }) := by
    have := (h.s1 hi (W + 2)).sE (E + 1)
    exact this
  have hal := (Below.refl _ ((w.setCell ⟨db, i * 7 + 1, none⟩ (.int .i64 ((W : Int) + 1 + 1))).setCell ⟨d, 0, none⟩ (.int .i64 (E + 1)))).alloc (Nat.le_refl _) (.cells #[.bool false, .int .i64 0, .int .i64 0, .slice none 0 0] 41)
  have hc2 : DrS (((w.setCell ⟨db, i * 7 + 1, none⟩ (.int .i64 ((W : Int) + 1 + 1))).setCell ⟨d, 0, none⟩ (.int .i64 (E + 1))).alloc (.cells #[.bool false, .int .i64 0, .int .i64 0, .slice none 0 0] 41)).drew d db W (E + 1) (updF f i { f i with pl := W + 2 }) := (hc.below hal).below (Below.refl _ _).drew
  have ho : Off [d, db] w (((w.setCell ⟨db, i * 7 + 1, none⟩ (.int .i64 ((W : Int) + 1 + 1))).setCell ⟨d, 0, none⟩ (.int .i64 (E + 1))).alloc (.cells #[.bool false, .int .i64 0, .int .i64 0, .slice none 0 0] 41)).drew := ((((Off.refl [d, db] w).setCell (p := ⟨db, i * 7 + 1, none⟩) (by simp) (.int .i64 ((W : Int) + 1 + 1))).setCell (p := ⟨d, 0, none⟩) (by simp) (.int .i64 (E + 1))).alloc (.cells #[.bool false, .int .i64 0, .int .i64 0, .slice none 0 0] 41)).drew
  have kr : BlkL (((w.setCell ⟨db, i * 7 + 1, none⟩ (.int .i64 ((W : Int) + 1 + 1))).setCell ⟨d, 0, none⟩ (.int .i64 (E + 1))).alloc (.cells #[.bool false, .int .i64 0, .int .i64 0, .slice none 0 0] 41)).drew w.heap.size _ := (by have := (BlkL.new ((w.setCell ⟨db, i * 7 + 1, none⟩ (.int .i64 ((W : Int) + 1 + 1))).setCell ⟨d, 0, none⟩ (.int .i64 (E + 1))) [.bool false, .int .i64 0, .int .i64 0, .slice none 0 0] 41).drew; simpa only [World.size_setCell] using this)
  have hend := dend_any hc2 i hi 0 (E + 1)
  simp only [updF_same, updF_updF] at hend
  have HEND := Lib.hid hend
  have k1 : w.cell? ⟨db, i * 7 + 1, none⟩ = some (.int .i64 ((f i).pl : Int)) := h.k (c := 1) hi (by omega)
  have k2 : w.cell? ⟨db, i * 7 + 2, none⟩ = some (.int .i64 (f i).e) := h.k (c := 2) hi (by omega)
  have f0 : w.frozen? ⟨db, i * 7, none⟩ = false := h.fr (c := 0) hi (by omega)
  have f1 := h.fr (i := i) (c := 1) hi (by omega)
  have f2 := h.fr (i := i) (c := 2) hi (by omega)
  have f4 := h.fr (i := i) (c := 4) hi (by omega)
  have f6 := h.fr (i := i) (c := 6) hi (by omega)
  have k4 : w.cell? ⟨db, i * 7 + 4, none⟩ = some (.bool (f i).pn) := h.k (c := 4) hi (by omega)
  have k6 : w.cell? ⟨db, i * 7 + 6, none⟩ = some (.int .i64 (f i).P) := h.k (c := 6) hi (by omega)
  have d0 : w.cell? ⟨d, 0, none⟩ = some (.int .i64 E) := h.hd.cell 0 _ rfl
  have d1 : w.cell? ⟨d, 1, none⟩ = some (.slice (some ⟨db, 0, none⟩) W W) := h.hd.cell 1 _ rfl
  have e0 : w.frozen? ⟨d, 0, none⟩ = false := h.hd.froz 0 (by simp)
  have lb := h.wk.lt
  have ld := h.hd.lt
  have hne := h.ne
  have hn1 : w.heap.size ≠ db := by omega
  have hn2 : w.heap.size ≠ d := by omega
  rw [hpl] at k1
  rw [hev] at k2
  have k1 : w.cell? ⟨db, i * 7 + 1, none⟩ = some (.int .i64 ((W : Int) + 1)) := k1
  have t5 : IntKind.i64.wrap ((W : Int) + 1 - 1) = (W : Int) := by rw [Int.add_sub_cancel]; exact IntWalk.i64_in _ (by omega)
  have t6 : IntKind.i64.wrap (W : Int) = (W : Int) := IntWalk.i64_in _ (by omega)
  have t7 : IntKind.i64.wrap ((W : Int) + 1 + 1) = (W : Int) + 1 + 1 := IntWalk.i64_in _ (by omega)
  have j0 : ¬ (W : Int) < 0 := by omega
  have j1 : ¬ (W : Int) < (W : Int) := by omega
  rw [← hE] at k2
  clear hE
  have b1 : (E != E) = false := by simp
  have t9 : IntKind.i64.wrap (E + 1) = E + 1 := IntWalk.i64_in _ (by omega)
  have HH := Lib.hid (And.intro ho kr)
  clear h hc hal hc2 ho kr hpl hev hend
  generalize f i = fi at *
  go_enter Try.func59, Try.ntmps59
  go_wp2_with fail
  go_region
  go_wp2_with fail
  with_reducible refine HEND.out.mono ?_
  rintro e' w5 ⟨rfl, h5, o5⟩
  have kr5 := HH.out.2.off o5 (by simpa using hn1)
  have z0 := kr5.cell 0 _ rfl
  have z1 := kr5.cell 1 _ rfl
  have z2 := kr5.cell 2 _ rfl
  have z3 := kr5.cell 3 _ rfl
  have y0 := kr5.froz 0 (by simp)
  have y1 := kr5.froz 1 (by simp)
  have y2 := kr5.froz 2 (by simp)
  have y3 := kr5.froz 3 (by simp)
  have zl := kr5.lt
  have H5 := Lib.hid (And.intro h5 (And.intro o5 kr5))
  clear h5 o5 kr5
  go_wp2
  obtain ⟨h5, o5, kr5⟩ := H5.out
  have hp := off_put4 (Off.refl [w.heap.size] w5) (r := w.heap.size) (by simp) (.bool true) (.int .i64 0) (.int .i64 (E + 1)) (.slice none 0 0)
  have kf := kr5.put4 (.bool true) (.int .i64 0) (.int .i64 (E + 1)) (.slice none 0 0)
  have q0 := kf.cell 0 _ rfl
  have q1 := kf.cell 1 _ rfl
  have q2 := kf.cell 2 _ rfl
  have q3 := kf.cell 3 _ rfl
  refine bodyPost_ret (v := .agg #[.bool true, .int .i64 0, .int .i64 (E + 1), .slice none 0 0]) ?_ ?_ ?_
  · simp [results, Try.results59, go_sem, q0, q1, q2, q3]
  · rfl
  · exact ⟨rfl, h5.off hp (by simpa using Ne.symm hn2) (by simpa using Ne.symm hn1), (HH.out.1.trans (o5.mono (by simp))).setNew4 _ _ _ _⟩

end
end Go.Proofs.Ytpjgpiiibgogeaa


/- The document's Epochs: collect. -/
namespace Go.Proofs.Ytpjgpiiibgogeaa
open Go.RowKit
set_option maxRecDepth 100000
set_option linter.unusedVariables false

theorem wpList_append_off {w : World} {ops : Array Oper} {rest : List Oper} {o : Oper} {a : Act} {Q : Exit → Act → World → Prop} (hgd : o.guard = none) (s x : Operand) (t : TypeId)
    (ho : o.op = .call { callee := .builtin .append, args := #[s, x], argTypes := #[t, t] })
    (base : Nat) (e : TypeId) (z : Value) (k bytes : Nat) (ht : Try.prog.underlying t = some (.slice e)) (hinfo : (Try.prog.info? e).map (fun i => (i.zero, i.size, i.bytes)) = some (some z, k, bytes)) (hz : z.cells.size = k) (hk : 0 < k)
    (A : Option Addr) (n c : Nat) (cs : List Value) (hs : a.eval s = .slice A n c) (hown : OwnC w base e k A n c cs)
    (g m : Nat) (vs : List Value) (hx : a.eval x = .slice (some ⟨g, 0, none⟩) 1 m) (hvs : vs.length = k) (hcell : ∀ j u, vs[j]? = some u → w.cell? ⟨g, j, none⟩ = some u) (h1 : ∀ u ∈ vs, u.oneCell' = true)
    (hn : n + 1 ≤ maxLen) (hbytes : (n + 1) * bytes ≤ 140737488355328) (hbase : base ≤ w.heap.size)
    (h : ∀ g' c' w', OwnC w' base e k (some ⟨g', 0, none⟩) (n + 1) c' (cs ++ vs) → Off (thX A) w w' → (g' ∈ thX A ∨ g' = w.heap.size) → wpList Try.prog ops Q rest (a.put o.dst (.slice (some ⟨g', 0, none⟩) (n + 1) c')) w') :
    wpList Try.prog ops Q (o :: rest) a w := by
  obtain ⟨i0, hi, hz0, hz1, hz2⟩ := info_parts hinfo
  refine wpList_append_lies w hgd s x t ho base e i0 z k bytes ht hi hz0 hz1 hz2 hz hk _ n _ hs hown ⟨g, 0, none⟩ 1 m vs hx (by omega) (fun j u hj => ?_) h1 (by omega) hn hbytes hbase w.heap.size rfl ?_
  · have e2 : (⟨g, 0, none⟩ : Addr).add j = ⟨g, j, none⟩ := by unfold Addr.add; split <;> simp_all
    rw [e2]; exact hcell j u hj
  · intro g' cap' w' h2 h3 h4 h5
    refine h g' cap' w' h2 ⟨h3.os, h3.tape, h3.output, h3.size, fun k hk hs => h3.block k hk (fun e => hs ?_)⟩ ?_
    · cases A with
      | none => simp [Value.ownBlock] at e
      | some a => simp [Value.ownBlock] at e; simp [thX, e]
    · rcases h4 with e | e
      · cases A with
        | none => simp [Value.ownBlock] at e
        | some a => simp [Value.ownBlock] at e; exact .inl (by simp [thX, e])
      · exact .inr (by omega)
/-- Is it old? -/
def oldB (E : Nat) (g : Int × Nat) : Bool := decide (g.2 + 2 ≤ E)
theorem old_split {E : Nat} {gs : List (Int × Nat)} (h : srtG gs) : gs.filter (oldB E) = gs.take (oldN E gs) ∧ gs.filter (fun g => !oldB E g) = gs.drop (oldN E gs) := by
  unfold srtG at h
  induction gs with
  | nil => simp [oldN]
  | cons g gs ih =>
    rw [List.pairwise_cons] at h
    obtain ⟨h1, h2⟩ := ih h.2
    unfold oldN
    rw [List.takeWhile_cons]
    by_cases hg : g.2 + 2 ≤ E
    · have hb : oldB E g = true := decide_eq_true hg
      rw [if_pos (decide_eq_true hg), List.length_cons, List.take_succ_cons, List.drop_succ_cons, List.filter_cons_of_pos hb, List.filter_cons_of_neg (by simp [hb])]
      exact ⟨by rw [h1]; rfl, h2⟩
    · have hb : oldB E g = false := decide_eq_false hg
      have hall : ∀ x ∈ gs, oldB E x = false := fun x hx => decide_eq_false (by have := h.1 x hx; omega)
      rw [if_neg (by simpa using hg), List.filter_cons_of_neg (by simp [hb]), List.filter_cons_of_pos (by simp [hb])]
      refine ⟨?_, ?_⟩
      · rw [List.filter_eq_nil_iff.2 (fun x hx => by simp [hall x hx])]; rfl
      · rw [List.filter_eq_self.2 (fun x hx => by simp [hall x hx])]; rfl
theorem take_snoc (gs : List (Int × Nat)) (i : Nat) (h : i < gs.length) : gs.take (i + 1) = gs.take i ++ [gs.getD i (0, 0)] := by
  rw [List.take_succ_eq_append_getElem h]
  simp [List.getD_eq_getElem?_getD, h]
abbrev TTh : TypeId := 134
theorem thing_info : (Try.prog.info? TTh).map (fun i => (i.zero, i.size, i.bytes)) = some (some (.agg #[.int .i64 0, .int .i64 0]), 2, 16) := by kernel_rfl
section
variable {w w' : World} {d db W : Nat} {E : Nat} {f : Nat → DkV} {S : List Nat}
/-- In the midst of collect: what was old, what stays. -/
structure CoS (w wr : World) (d db W : Nat) (E : Nat) (f : Nat → DkV) (r i : Nat) (gs : List (Int × Nat)) (As : Option Addr) (cs : Nat) (Ar : Option Addr) (cr : Nat) : Prop where
  dr : DrS wr d db W (E : Int) f
  kr : BlkL wr r [.bool true, .int .i64 0, .int .i64 (((gs.take i).filter (oldB E)).length : Int), .slice Ar ((gs.take i).filter (oldB E)).length cr]
  th : OwnC wr (w.heap.size + 1) TI 1 Ar ((gs.take i).filter (oldB E)).length cr (thI (((gs.take i).filter (oldB E)).map (·.1)))
  st : OwnC wr (w.heap.size + 1) TTh 2 As ((gs.take i).filter (fun g => !oldB E g)).length cs (GVs ((gs.take i).filter (fun g => !oldB E g)))
  ap : ∀ y ∈ thX As, y ∉ thX Ar
  ar : r ∉ thX Ar ∧ r ∉ thX As
  rg : w.heap.size < r
  of : Off [db] w wr
theorem Off.transNew {S S' : List Nat} {w w1 w2 : World} (h : Off S w w1) (k : Off S' w1 w2) (hS : ∀ y ∈ S', w.heap.size ≤ y) : Off S w w2 :=
  ⟨k.os.trans h.os, k.tape.trans h.tape, k.output.trans h.output, Nat.le_trans h.size k.size, fun i hi hs => (k.block i (Nat.lt_of_lt_of_le hi h.size) (fun hm => by have := hS i hm; omega)).trans (h.block i hi hs)⟩
theorem OwnC.ltX {w : World} {B k n c : Nat} {T : TypeId} {A : Option Addr} {cs : List Value} (h : OwnC w B T k A n c cs) : ∀ y ∈ thX A, B ≤ y ∧ y < w.heap.size := fun y hy => by
  obtain ⟨a, e, rfl⟩ := thX_mem y hy
  exact h.lt a e
theorem OwnC.offX {w w' : World} {B k n c : Nat} {T : TypeId} {A : Option Addr} {cs : List Value} {S : List Nat} (h : OwnC w B T k A n c cs) (hf : Off S w w') (hS : ∀ y ∈ thX A, y ∉ S) : OwnC w' B T k A n c cs :=
  h.off hf (fun a ha => hS a.block (by rw [ha]; simp [thX]))
theorem CoS.below {wr w1 : World} {r i : Nat} {gs : List (Int × Nat)} {As Ar : Option Addr} {cs cr : Nat} (h : CoS w wr d db W E f r i gs As cs Ar cr) (hb : Below wr.heap.size wr w1) : CoS w w1 d db W E f r i gs As cs Ar cr :=
  ⟨h.dr.below hb, h.kr.below hb, h.th.off (Off.of_below (S := []) hb) (by simp), h.st.off (Off.of_below (S := []) hb) (by simp), h.ap, h.ar, h.rg, h.of.trans (Off.of_below hb)⟩
/-- How collect ends. -/
def CoE (w : World) (d db W E : Nat) (f : Nat → DkV) (i : Nat) (gs : List (Int × Nat)) (m : Nat) (e : Ending) (w' : World) : Prop :=
  ∃ Ar cr As cs, e = .returned (.agg #[.bool true, .int .i64 0, .int .i64 (oldN E gs : Int), .slice Ar (oldN E gs) cr]) ∧
      DrS w' d db W (E : Int) (updF f i { f i with op := 0, A := As, n := m, c := cs }) ∧ OwnC w' w.heap.size TI 1 Ar (oldN E gs) cr (thI ((gs.take (oldN E gs)).map (·.1))) ∧ OwnC w' w.heap.size TTh 2 As m cs (GVs (gs.drop (oldN E gs))) ∧ (∀ y ∈ thX As, y ∉ thX Ar) ∧ Off [db] w w'
set_option maxHeartbeats 6400000 in
theorem dcol_any (h : DrS w d db W (E : Int) f) (i : Nat) (hi : i < W) (B : Nat) (gs : List (Int × Nat)) (hn : (f i).n = gs.length) (hrow : OwnC w B TTh 2 (f i).A (f i).n (f i).c (GVs gs)) (hl : gs.length ≤ 4096) (hs : srtG gs) (hA : ∀ y ∈ thX (f i).A, y ≠ db) (hE : E < 4611686018427387904) (m : Nat) (hm : (gs.drop (oldN E gs)).length = m) :
    Calls Try.prog 60 #[PV d, .pointer (some ⟨db, i * 7, none⟩)] w (CoE w d db W E f i gs m) := by
  have HM := Lib.hid hm
  clear hm
  have hb0 := (Below.refl w.heap.size w).alloc (Nat.le_refl _) RD
  have h0 := h.below hb0
  have HEND := Lib.hid (dend_any h0 i hi 0 0)
  have KR := Lib.hid (BlkL.new w [.bool false, .int .i64 0, .int .i64 0, .slice none 0 0] 41)
  have HROW := Lib.hid hrow
  have HA := Lib.hid hA
  have HS := Lib.hid hs
  have H := Lib.hid h
  have HB0 := Lib.hid hb0
  have lb := h.wk.lt
  have hne : w.heap.size ≠ db := by omega
  have hnE := h.ne
  clear h h0 hb0 hrow hA hs
  go_enter Try.func60, Try.ntmps60
  go_wp2_with fail
  with_reducible refine HEND.out.mono ?_
  rintro e w5 ⟨rfl, h5, o5⟩
  have k5 : w5.cell? ⟨db, i * 7 + 5, none⟩ = some (.slice (f i).A (f i).n (f i).c) := by
    have := h5.k (i := i) (c := 5) hi (by omega)
    rw [updF_same] at this
    exact this
  have lb5 := h5.wk.lt
  have hr5 := KR.out.off o5 (by simpa using hne)
  have hrl := hr5.lt
  have hal := (Below.refl w5.heap.size w5).alloc (Nat.le_refl _) (.cells #[.bool true, .int .i64 0, .int .i64 0, .slice none 0 0] 41)
  have o5' : Off [db] w w5 := (Off.of_below HB0.out).trans o5
  have S0 : Hid (CoS w (w5.alloc (.cells #[.bool true, .int .i64 0, .int .i64 0, .slice none 0 0] 41)) d db W E (updF f i { f i with op := 0 }) w5.heap.size 0 gs none 0 none 0) := Lib.hid ⟨h5.below hal, BlkL.new w5 _ _, World.ownsRow_nil _ _ _ _, World.ownsRow_nil _ _ _ _, by simp [thX], by simp [thX], by simpa using hrl, o5'.trans (Off.of_below hal)⟩
  have KR5 := Lib.hid (hr5.below hal)
  clear h5 o5 hal o5' hr5 HEND
  rw [hn] at k5
  generalize hF0 : updF f i { f i with op := 0 } = F0 at *
  have HF := Lib.hid hF0
  clear hF0
  go_wp2
  generalize w5.heap.size = r at *
  go_loopw [6, 16] (fun sv iv wr => ∃ (j : Nat) (As Ar : Option Addr) (cs cr : Nat), j ≤ gs.length ∧ iv = .int .i64 ((j : Nat) : Int) ∧ sv = .slice As ((gs.take j).filter (fun g => !oldB E g)).length cs ∧ CoS w wr d db W E F0 r j gs As cs Ar cr ∧ BlkL wr w.heap.size [.bool false, .int .i64 0, .int .i64 0, .slice none 0 0]) (fun _ iv _ => gs.length - (intOf iv).toNat)
  case atStart => exact ⟨0, none, none, 0, 0, Nat.zero_le _, rfl, rfl, S0.out, KR5.out⟩
  case round =>
    obtain ⟨j, As, Ar, cs, cr, hj, rfl, rfl, hc, hkr⟩ := hrel
    clear S0 KR5
    have hbs := hc.of.size
    rcases Nat.lt_or_ge j gs.length with hlt | hge
    · have hrow := HROW.out.off hc.of (fun a ha hm => HA.out a.block (by rw [ha]; simp [thX]) (by simpa using hm))
      obtain ⟨g, off, eA, hgB, hcl⟩ := hrow.arg.at_ (by omega)
      have ha := GVs_at gs j hlt
      have c0 : wr.cell? ⟨g, off + j * 2, none⟩ = some (.int .i64 (gs.getD j (0, 0)).1) := (hcl (j * 2) (by omega)).trans ha.1
      have c1 : wr.cell? ⟨g, off + j * 2 + 1, none⟩ = some (.int .i64 ((gs.getD j (0, 0)).2 : Nat)) := (hcl (j * 2 + 1) (by omega)).trans ha.2
      have hgl : g < wr.heap.size := hgB
      have hsn := take_snoc gs j hlt
      have j2 : (0 : Int) ≤ (j : Int) := by omega
      have j3 : (j : Int) < (gs.length : Int) := by omega
      have d0 : wr.cell? ⟨d, 0, none⟩ = some (.int .i64 (E : Int)) := hc.dr.hd.cell 0 _ rfl
      have ld := hc.dr.hd.lt
      have HSN := Lib.hid hsn
      have hwE : IntKind.i64.wrap ((E : Int) - 2) = (E : Int) - 2 := IntWalk.i64_in _ (by omega)
      have HC := Lib.hid hc
      have HK := Lib.hid hkr
      have hrl := hc.kr.lt
      have z2 := hc.kr.cell 2 _ rfl
      have z3 := hc.kr.cell 3 _ rfl
      have hWb : w.heap.size + 1 ≤ wr.heap.size := by have := hc.rg; omega
      have hll : ∀ p : Int × Nat → Bool, ((gs.take j).filter p).length ≤ 4096 := fun p => by
        have := List.length_filter_le p (gs.take j)
        rw [List.length_take] at this
        omega
      have HLL := Lib.hid hll
      clear hcl ha hrow hc hkr hsn hll
      generalize gs.getD j (0, 0) = y at *
      obtain ⟨yt, ye⟩ := y
      simp only at c0 c1
      rw [eA]
      rcases hd : decide (ye + 2 ≤ E) with _ | _
      · have hd2 : ¬ ye + 2 ≤ E := by simpa using hd
        have hd3 : ¬ (ye : Int) ≤ (E : Int) - 2 := by omega
        have hob : oldB E (yt, ye) = false := hd
        clear hd
        have hb6 : Below wr.heap.size wr ((wr.alloc (.cells #[.int .i64 yt, .int .i64 (ye : Int)] 134)).alloc (.cells #[.int .i64 yt, .int .i64 (ye : Int)] 134)).drew := (((Below.refl wr.heap.size wr).alloc (Nat.le_refl _) (.cells #[.int .i64 yt, .int .i64 (ye : Int)] 134)).alloc (by simp) (.cells #[.int .i64 yt, .int .i64 (ye : Int)] 134)).drew
        have C6 := Lib.hid (HC.out.below hb6)
        have K6 := Lib.hid (HK.out.below hb6)
        have kp := (BlkL.new (wr.alloc (.cells #[.int .i64 yt, .int .i64 (ye : Int)] 134)) [.int .i64 yt, .int .i64 (ye : Int)] 134).drew
        rw [World.size_alloc] at kp
        have KP := Lib.hid kp
        have hz6 : ((wr.alloc (.cells #[.int .i64 yt, .int .i64 (ye : Int)] 134)).alloc (.cells #[.int .i64 yt, .int .i64 (ye : Int)] 134)).drew.heap.size = wr.heap.size + 2 := by show ((wr.alloc (.cells #[.int .i64 yt, .int .i64 (ye : Int)] 134)).alloc (.cells #[.int .i64 yt, .int .i64 (ye : Int)] 134)).heap.size = _; simp
        have hm1 : ((gs.take j).filter (fun g => !oldB E g)).length + 1 ≤ maxLen := by have := HLL.out (fun g => !oldB E g); unfold maxLen; omega
        have hm2 : (((gs.take j).filter (fun g => !oldB E g)).length + 1) * 16 ≤ 140737488355328 := by have := HLL.out (fun g => !oldB E g); omega
        clear hb6 kp
        go_wp2_with fail
        go_region
        go_wp2_with (refine wpList_append_off rfl (.tmp 39) (.tmp 41) 127 rfl (w.heap.size + 1) TTh _ 2 16 Try.underlying127 thing_info rfl (by omega) As _ cs _ rfl C6.out.st (wr.heap.size + 1) 1 [.int .i64 yt, .int .i64 (ye : Int)] rfl rfl KP.out.cell (by simp [Value.oneCell']) hm1 hm2 (by omega) ?_)
        intro g' c' w7 ho7 hf7 hg7
        have hAs := C6.out.st.ltX
        have hAr := C6.out.th.ltX
        have ef : (gs.take (j + 1)).filter (oldB E) = (gs.take j).filter (oldB E) := by rw [HSN.out, List.filter_append]; simp [hob]
        have en : (gs.take (j + 1)).filter (fun g => !oldB E g) = (gs.take j).filter (fun g => !oldB E g) ++ [(yt, ye)] := by rw [HSN.out, List.filter_append]; simp [hob]
        have S7 : Hid (CoS w w7 d db W E F0 r (j + 1) gs (some ⟨g', 0, none⟩) c' Ar cr ∧ BlkL w7 w.heap.size [.bool false, .int .i64 0, .int .i64 0, .slice none 0 0]) := by
          refine Lib.hid ⟨⟨C6.out.dr.off hf7 (fun hm => by have := (hAs _ hm).1; have := H.out.hd.lt; omega) (fun hm => by have := (hAs _ hm).1; omega), ?_, ?_, ?_, ?_, ⟨C6.out.ar.1, ?_⟩, C6.out.rg, C6.out.of.transNew hf7 (fun y hy => by have := (hAs y hy).1; omega)⟩, K6.out.off hf7 (fun hm => by have := (hAs _ hm).1; omega)⟩
          · rw [ef]; exact C6.out.kr.off hf7 C6.out.ar.2
          · rw [ef]; exact C6.out.th.offX hf7 (fun y hy hm => C6.out.ap y hm hy)
          · rw [en, GVs_append, List.length_append]; exact ho7
          · intro y hy hm
            simp only [thX, List.mem_cons, List.not_mem_nil, or_false] at hy
            subst hy
            rcases hg7 with h1 | h1
            · exact C6.out.ap _ h1 hm
            · have := (hAr _ hm).2; omega
          · intro hm
            simp only [thX, List.mem_cons, List.not_mem_nil, or_false] at hm
            rcases hg7 with h1 | h1
            · rw [← hm] at h1; exact C6.out.ar.2 h1
            · have := C6.out.kr.lt; omega
        have eL : ((gs.take j).filter (fun g => !oldB E g)).length + 1 = ((gs.take (j + 1)).filter (fun g => !oldB E g)).length := by rw [en]; simp
        have EL := Lib.hid eL
        clear ho7 hf7 hg7 hAs hAr ef en eL
        go_wp2
        go_roundw
        case rel => exact ⟨j + 1, some ⟨g', 0, none⟩, Ar, c', cr, by omega, by go_num, by rw [EL.out], S7.out.1, S7.out.2⟩
        case measure => simp [intOf]; omega
      · have hd2 : ye + 2 ≤ E := by simpa using hd
        have hd3 : (ye : Int) ≤ (E : Int) - 2 := by omega
        have hob : oldB E (yt, ye) = true := hd
        clear hd
        have hb6 : Below wr.heap.size wr ((wr.alloc (.cells #[.int .i64 yt, .int .i64 (ye : Int)] 134)).alloc (.cells #[.int .i64 yt] 3)).drew := (((Below.refl wr.heap.size wr).alloc (Nat.le_refl _) (.cells #[.int .i64 yt, .int .i64 (ye : Int)] 134)).alloc (by simp) (.cells #[.int .i64 yt] 3)).drew
        have C6 := Lib.hid (HC.out.below hb6)
        have K6 := Lib.hid (HK.out.below hb6)
        have kp := (BlkL.new (wr.alloc (.cells #[.int .i64 yt, .int .i64 (ye : Int)] 134)) [.int .i64 yt] 3).drew
        rw [World.size_alloc] at kp
        have KP := Lib.hid kp
        have hz6 : ((wr.alloc (.cells #[.int .i64 yt, .int .i64 (ye : Int)] 134)).alloc (.cells #[.int .i64 yt] 3)).drew.heap.size = wr.heap.size + 2 := by show ((wr.alloc (.cells #[.int .i64 yt, .int .i64 (ye : Int)] 134)).alloc (.cells #[.int .i64 yt] 3)).heap.size = _; simp
        have hm0 := HLL.out (oldB E)
        have hm1 : ((gs.take j).filter (oldB E)).length + 1 ≤ maxLen := by unfold maxLen; omega
        have hm2 : (((gs.take j).filter (oldB E)).length + 1) * 8 ≤ 140737488355328 := by omega
        have hwN : IntKind.i64.wrap ((((gs.take j).filter (oldB E)).length : Int) + 1) = (((gs.take j).filter (oldB E)).length : Int) + 1 := IntWalk.i64_in _ (by omega)
        clear hb6 kp
        go_wp2_with fail
        go_region
        go_wp2_with (refine wpList_append_off rfl (.tmp 29) (.tmp 32) 35 rfl (w.heap.size + 1) TI _ 1 8 Try.underlying35 int_info rfl (by omega) Ar _ cr _ rfl C6.out.th (wr.heap.size + 1) 1 [.int .i64 yt] rfl rfl KP.out.cell (by simp [Value.oneCell']) hm1 hm2 (by omega) ?_)
        intro g' c' w7 ho7 hf7 hg7
        have hAs := C6.out.st.ltX
        have hAr := C6.out.th.ltX
        have kr7 := C6.out.kr.off hf7 C6.out.ar.1
        have y2 := kr7.cell 2 _ rfl
        have y3 := kr7.cell 3 _ rfl
        have x2 := kr7.froz 2 (by simp)
        have x3 := kr7.froz 3 (by simp)
        have rl7 := kr7.lt
        have ef : (gs.take (j + 1)).filter (oldB E) = (gs.take j).filter (oldB E) ++ [(yt, ye)] := by rw [HSN.out, List.filter_append]; simp [hob]
        have en : (gs.take (j + 1)).filter (fun g => !oldB E g) = (gs.take j).filter (fun g => !oldB E g) := by rw [HSN.out, List.filter_append]; simp [hob]
        have hp := ((Off.refl [r] w7).setCell (p := ⟨r, 3, none⟩) (by simp) (.slice (some ⟨g', 0, none⟩) (((gs.take j).filter (oldB E)).length + 1) c')).setCell (p := ⟨r, 2, none⟩) (by simp) (.int .i64 ((((gs.take j).filter (oldB E)).length : Int) + 1))
        have hrs : ∀ y ∈ thX (some (⟨g', 0, none⟩ : Addr)), y ≠ r := fun y hy e => by
          simp only [thX, List.mem_cons, List.not_mem_nil, or_false] at hy
          subst hy
          rcases hg7 with h1 | h1
          · rw [e] at h1; exact C6.out.ar.1 h1
          · have := C6.out.kr.lt; omega
        have S7 : Hid (CoS w ((w7.setCell ⟨r, 3, none⟩ (.slice (some ⟨g', 0, none⟩) (((gs.take j).filter (oldB E)).length + 1) c')).setCell ⟨r, 2, none⟩ (.int .i64 ((((gs.take j).filter (oldB E)).length : Int) + 1))) d db W E F0 r (j + 1) gs As cs (some ⟨g', 0, none⟩) c' ∧ BlkL ((w7.setCell ⟨r, 3, none⟩ (.slice (some ⟨g', 0, none⟩) (((gs.take j).filter (oldB E)).length + 1) c')).setCell ⟨r, 2, none⟩ (.int .i64 ((((gs.take j).filter (oldB E)).length : Int) + 1))) w.heap.size [.bool false, .int .i64 0, .int .i64 0, .slice none 0 0]) := by
          have hrg := C6.out.rg
          have hdl := H.out.hd.lt
          refine Lib.hid ⟨⟨(C6.out.dr.off hf7 (fun hm => by have := (hAr _ hm).1; omega) (fun hm => by have := (hAr _ hm).1; omega)).off hp (by simp; omega) (by simp; omega), ?_, ?_, ?_, ?_, ⟨fun hm => hrs _ hm rfl, C6.out.ar.2⟩, hrg, (C6.out.of.transNew hf7 (fun y hy => by have := (hAr y hy).1; omega)).transNew hp (fun y hy => by simp only [List.mem_cons, List.not_mem_nil, or_false] at hy; omega)⟩, (K6.out.off hf7 (fun hm => by have := (hAr _ hm).1; omega)).off hp (by simp; omega)⟩
          · rw [ef, List.length_append]
            have := (kr7.set 3 (.slice (some ⟨g', 0, none⟩) (((gs.take j).filter (oldB E)).length + 1) c') (by simp)).set 2 (.int .i64 ((((gs.take j).filter (oldB E)).length : Int) + 1)) (by simp)
            exact this
          · rw [ef, List.length_append, List.map_append, show thI (((gs.take j).filter (oldB E)).map (·.1) ++ [(yt, ye)].map (·.1)) = thI (((gs.take j).filter (oldB E)).map (·.1)) ++ [.int .i64 yt] by simp [thI]]
            exact ho7.offX hp (fun y hy hm => hrs y hy (by simpa using hm))
          · rw [en]
            exact (C6.out.st.offX hf7 (fun y hy hm => C6.out.ap y hy hm)).offX hp (fun y hy hm => C6.out.ar.2 (by simp only [List.mem_cons, List.not_mem_nil, or_false] at hm; rwa [hm] at hy))
          · intro y hy hm
            simp only [thX, List.mem_cons, List.not_mem_nil, or_false] at hm
            rcases hg7 with h1 | h1
            · rw [← hm] at h1; exact C6.out.ap y hy h1
            · have := (hAs y hy).2; omega
        have eL : ((gs.take j).filter (fun g => !oldB E g)).length = ((gs.take (j + 1)).filter (fun g => !oldB E g)).length := by rw [en]
        have EL := Lib.hid eL
        clear ho7 hf7 hg7 hAs hAr ef en eL hp hrs kr7
        go_wp2
        go_roundw
        case rel => exact ⟨j + 1, As, some ⟨g', 0, none⟩, cs, c', by omega, by go_num, by rw [EL.out], S7.out.1, S7.out.2⟩
        case measure => simp [intOf]; omega
    · obtain rfl : j = gs.length := by omega
      have j3 : ¬ (gs.length : Int) < (gs.length : Int) := by omega
      have hsp := old_split (E := E) HS.out
      have hol : (gs.take (oldN E gs)).length = oldN E gs := by rw [List.length_take]; have := oldN_le E gs; omega
      obtain ⟨dr, kr, th, st, ap, ar, rg, of⟩ := hc
      rw [List.take_length] at kr th st
      rw [hsp.1, hol] at kr th
      rw [hsp.2] at st
      have eL : ((gs.take gs.length).filter (fun g => !oldB E g)).length = m := by rw [List.take_length, hsp.2, HM.out]
      rw [eL]
      rw [HM.out] at st
      have z0 := kr.cell 0 _ rfl
      have z1 := kr.cell 1 _ rfl
      have z2 := kr.cell 2 _ rfl
      have z3 := kr.cell 3 _ rfl
      have zl := kr.lt
      have y0 := hkr.cell 0 _ rfl
      have y1 := hkr.cell 1 _ rfl
      have y2 := hkr.cell 2 _ rfl
      have y3 := hkr.cell 3 _ rfl
      have x0 := hkr.froz 0 (by simp)
      have x1 := hkr.froz 1 (by simp)
      have x2 := hkr.froz 2 (by simp)
      have x3 := hkr.froz 3 (by simp)
      have yl := hkr.lt
      have k5 : wr.cell? ⟨db, i * 7 + 5, none⟩ = some (dkV (F0 i) 5) := dr.k hi (by omega)
      have f5 := dr.fr (i := i) (c := 5) hi (by omega)
      have lb5 := dr.wk.lt
      have lbd := H.out.wk.lt
      have ldd := H.out.hd.lt
      have nr1 : r ≠ db := by omega
      have nr2 : r ≠ w.heap.size := by omega
      have ho5 := (Off.refl [db] wr).setCell (p := ⟨db, i * 7 + 5, none⟩) (by simp) (.slice As m cs)
      have hp := off_put4 (Off.refl [w.heap.size] (wr.setCell ⟨db, i * 7 + 5, none⟩ (.slice As m cs))) (r := w.heap.size) (by simp) (.bool true) (.int .i64 0) (.int .i64 (oldN E gs : Int)) (.slice Ar (oldN E gs) cr)
      have kf := (hkr.off ho5 (by simpa using hne)).put4 (.bool true) (.int .i64 0) (.int .i64 (oldN E gs : Int)) (.slice Ar (oldN E gs) cr)
      have d5 := dr.s5 hi As m cs
      rw [← HF.out, updF_same, updF_updF] at d5
      have hth := th.ltX
      have hst := st.ltX
      have HALL : Hid (BlkL _ _ _ ∧ DrS _ d db W (E : Int) _ ∧ OwnC _ w.heap.size TI 1 Ar _ _ _ ∧ OwnC _ w.heap.size TTh 2 As _ _ _ ∧ Off [db] w _) := Lib.hid ⟨kf, d5.off hp (by simp; omega) (by simp; omega), ((th.offX ho5 (fun y hy => by have := (hth y hy).1; simp; omega)).offX hp (fun y hy => by have := (hth y hy).1; simp; omega)).lower (by omega), ((st.offX ho5 (fun y hy => by have := (hst y hy).1; simp; omega)).offX hp (fun y hy => by have := (hst y hy).1; simp; omega)).lower (by omega), (of.trans ho5).setNew4 (.bool true) (.int .i64 0) (.int .i64 (oldN E gs : Int)) (.slice Ar (oldN E gs) cr)⟩
      have AP := Lib.hid ap
      clear dr kr th st ap ar rg of ho5 hp kf d5 hth hst hsp hol eL hkr
      go_wp2
      obtain ⟨kf, a1, a2, a3, a4⟩ := HALL.out
      have q0 := kf.cell 0 _ rfl
      have q1 := kf.cell 1 _ rfl
      have q2 := kf.cell 2 _ rfl
      have q3 := kf.cell 3 _ rfl
      refine bodyPost_ret (v := .agg #[.bool true, .int .i64 0, .int .i64 (oldN E gs : Int), .slice Ar (oldN E gs) cr]) ?_ ?_ ?_
      · simp [results, Try.results60, go_sem, q0, q1, q2, q3]
      · rfl
      · exact ⟨Ar, cr, As, cs, rfl, a1, a2, a3, AP.out, a4⟩
end
end Go.Proofs.Ytpjgpiiibgogeaa


/- The document's Epochs: Step. -/
namespace Go.Proofs.Ytpjgpiiibgogeaa
open Go.RowKit
set_option maxRecDepth 100000
set_option linter.unusedVariables false

section
variable {w w' : World} {d db W : Nat} {E : Int} {f : Nat → DkV} {S : List Nat}
/-- Step's end, where the worker's part ended so in the world w6. -/
def DtE (w : World) (Q : Bool → Int → Int → Option Addr → Nat → Nat → World → Prop) (e : Ending) (w' : World) : Prop :=
  ∃ qd qe qn A l c w6, e = .returned (.tuple #[.agg #[.bool qd, .int .i64 qe, .int .i64 qn, .slice A l c], .int .i64 0]) ∧ Q qd qe qn A l c w6 ∧ Off [w.heap.size] w6 w' 

set_option maxHeartbeats 3200000 in
theorem dstep_pin (h : DrS w d db W E f) (i : Nat) (hi : i < W) (hop : (f i).op = 1) (Q : Bool → Int → Int → Option Addr → Nat → Nat → World → Prop)
    (hc : Calls Try.prog 57 #[PV d, .pointer (some ⟨db, i * 7, none⟩)] (w.alloc RD) fun e w' => ∃ qd qe qn A l c, e = .returned (.agg #[.bool qd, .int .i64 qe, .int .i64 qn, .slice A l c]) ∧ Q qd qe qn A l c w' ∧ Off [d, db] (w.alloc RD) w') :
    Calls Try.prog 19 #[PV d, IV i] w (DtE w Q) := by
  have hb0 := (Below.refl w.heap.size w).alloc (Nat.le_refl _) RD
  have HT := Lib.hid (there_any (h.below hb0) (i : Int))
  rw [show inB (i : Int) W = true from inB_iff.mpr (by omega)] at HT
  have KR := Lib.hid (BlkL.new w [.bool false, .int .i64 0, .int .i64 0, .slice none 0 0] 41)
  have k0 : w.cell? ⟨db, i * 7, none⟩ = some (.int .u8 ((f i).op : Int)) := h.k (c := 0) hi (by omega)
  have d0 : w.cell? ⟨d, 0, none⟩ = some (.int .i64 E) := h.hd.cell 0 _ rfl
  have d1 : w.cell? ⟨d, 1, none⟩ = some (.slice (some ⟨db, 0, none⟩) W W) := h.hd.cell 1 _ rfl
  have lb := h.wk.lt
  have ld := h.hd.lt
  have hne := h.ne
  have hn1 : w.heap.size ≠ db := by omega
  have hn2 : w.heap.size ≠ d := by omega
  have j0 : (0 : Int) ≤ (i : Int) := by omega
  have j1 : (i : Int) < (W : Int) := by omega
  rw [hop] at k0
  have HC := Lib.hid hc
  have z4 : ((1 : Nat) : Int) = 1 := rfl
  rw [z4] at k0
  clear h hop hc hb0 z4
  go_enter Try.func19, Try.ntmps19
  go_wp2_with fail
  with_reducible refine HT.out.mono ?_
  rintro e w1 ⟨rfl, hw⟩
  subst hw
  go_wp2_with fail
  with_reducible refine HC.out.mono ?_
  rintro e w6 ⟨qd, qe, qn, A, l, c, rfl, hq, ho⟩
  have kr6 := KR.out.off ho (by simp [hn1, hn2])
  have z0 := kr6.cell 0 _ rfl
  have z1 := kr6.cell 1 _ rfl
  have z2 := kr6.cell 2 _ rfl
  have z3 := kr6.cell 3 _ rfl
  have y0 := kr6.froz 0 (by simp)
  have y1 := kr6.froz 1 (by simp)
  have y2 := kr6.froz 2 (by simp)
  have y3 := kr6.froz 3 (by simp)
  have zl := kr6.lt
  have H6 := Lib.hid (And.intro hq kr6)
  clear hq ho kr6 HC HT
  go_wp2
  have hp := off_put4 (Off.refl [w.heap.size] w6) (r := w.heap.size) (by simp) (.bool qd) (.int .i64 qe) (.int .i64 qn) (.slice A l c)
  have kf := H6.out.2.put4 (.bool qd) (.int .i64 qe) (.int .i64 qn) (.slice A l c)
  have q0 := kf.cell 0 _ rfl
  have q1 := kf.cell 1 _ rfl
  have q2 := kf.cell 2 _ rfl
  have q3 := kf.cell 3 _ rfl
  refine bodyPost_ret (v := .tuple #[.agg #[.bool qd, .int .i64 qe, .int .i64 qn, .slice A l c], .int .i64 0]) ?_ ?_ ?_
  · simp [results, Try.results19, go_sem, q0, q1, q2, q3]
  · rfl
  · exact ⟨qd, qe, qn, A, l, c, w6, rfl, H6.out.1, hp⟩

set_option maxHeartbeats 3200000 in
theorem dstep_adv (h : DrS w d db W E f) (i : Nat) (hi : i < W) (hop : (f i).op = 4) (Q : Bool → Int → Int → Option Addr → Nat → Nat → World → Prop)
    (hc : Calls Try.prog 59 #[PV d, .pointer (some ⟨db, i * 7, none⟩)] (w.alloc RD) fun e w' => ∃ qd qe qn A l c, e = .returned (.agg #[.bool qd, .int .i64 qe, .int .i64 qn, .slice A l c]) ∧ Q qd qe qn A l c w' ∧ Off [d, db] (w.alloc RD) w') :
    Calls Try.prog 19 #[PV d, IV i] w (DtE w Q) := by
  have hb0 := (Below.refl w.heap.size w).alloc (Nat.le_refl _) RD
  have HT := Lib.hid (there_any (h.below hb0) (i : Int))
  rw [show inB (i : Int) W = true from inB_iff.mpr (by omega)] at HT
  have KR := Lib.hid (BlkL.new w [.bool false, .int .i64 0, .int .i64 0, .slice none 0 0] 41)
  have k0 : w.cell? ⟨db, i * 7, none⟩ = some (.int .u8 ((f i).op : Int)) := h.k (c := 0) hi (by omega)
  have d0 : w.cell? ⟨d, 0, none⟩ = some (.int .i64 E) := h.hd.cell 0 _ rfl
  have d1 : w.cell? ⟨d, 1, none⟩ = some (.slice (some ⟨db, 0, none⟩) W W) := h.hd.cell 1 _ rfl
  have lb := h.wk.lt
  have ld := h.hd.lt
  have hne := h.ne
  have hn1 : w.heap.size ≠ db := by omega
  have hn2 : w.heap.size ≠ d := by omega
  have j0 : (0 : Int) ≤ (i : Int) := by omega
  have j1 : (i : Int) < (W : Int) := by omega
  rw [hop] at k0
  have HC := Lib.hid hc
  have z4 : ((4 : Nat) : Int) = 4 := rfl
  rw [z4] at k0
  clear h hop hc hb0 z4
  go_enter Try.func19, Try.ntmps19
  go_wp2_with fail
  with_reducible refine HT.out.mono ?_
  rintro e w1 ⟨rfl, hw⟩
  subst hw
  go_wp2_with fail
  with_reducible refine HC.out.mono ?_
  rintro e w6 ⟨qd, qe, qn, A, l, c, rfl, hq, ho⟩
  have kr6 := KR.out.off ho (by simp [hn1, hn2])
  have z0 := kr6.cell 0 _ rfl
  have z1 := kr6.cell 1 _ rfl
  have z2 := kr6.cell 2 _ rfl
  have z3 := kr6.cell 3 _ rfl
  have y0 := kr6.froz 0 (by simp)
  have y1 := kr6.froz 1 (by simp)
  have y2 := kr6.froz 2 (by simp)
  have y3 := kr6.froz 3 (by simp)
  have zl := kr6.lt
  have H6 := Lib.hid (And.intro hq kr6)
  clear hq ho kr6 HC HT
  go_wp2
  have hp := off_put4 (Off.refl [w.heap.size] w6) (r := w.heap.size) (by simp) (.bool qd) (.int .i64 qe) (.int .i64 qn) (.slice A l c)
  have kf := H6.out.2.put4 (.bool qd) (.int .i64 qe) (.int .i64 qn) (.slice A l c)
  have q0 := kf.cell 0 _ rfl
  have q1 := kf.cell 1 _ rfl
  have q2 := kf.cell 2 _ rfl
  have q3 := kf.cell 3 _ rfl
  refine bodyPost_ret (v := .tuple #[.agg #[.bool qd, .int .i64 qe, .int .i64 qn, .slice A l c], .int .i64 0]) ?_ ?_ ?_
  · simp [results, Try.results19, go_sem, q0, q1, q2, q3]
  · rfl
  · exact ⟨qd, qe, qn, A, l, c, w6, rfl, H6.out.1, hp⟩

set_option maxHeartbeats 3200000 in
theorem dstep_col (h : DrS w d db W E f) (i : Nat) (hi : i < W) (hop : (f i).op = 5) (Q : Bool → Int → Int → Option Addr → Nat → Nat → World → Prop)
    (hc : Calls Try.prog 60 #[PV d, .pointer (some ⟨db, i * 7, none⟩)] (w.alloc RD) fun e w' => ∃ qd qe qn A l c, e = .returned (.agg #[.bool qd, .int .i64 qe, .int .i64 qn, .slice A l c]) ∧ Q qd qe qn A l c w' ∧ Off [d, db] (w.alloc RD) w') :
    Calls Try.prog 19 #[PV d, IV i] w (DtE w Q) := by
  have hb0 := (Below.refl w.heap.size w).alloc (Nat.le_refl _) RD
  have HT := Lib.hid (there_any (h.below hb0) (i : Int))
  rw [show inB (i : Int) W = true from inB_iff.mpr (by omega)] at HT
  have KR := Lib.hid (BlkL.new w [.bool false, .int .i64 0, .int .i64 0, .slice none 0 0] 41)
  have k0 : w.cell? ⟨db, i * 7, none⟩ = some (.int .u8 ((f i).op : Int)) := h.k (c := 0) hi (by omega)
  have d0 : w.cell? ⟨d, 0, none⟩ = some (.int .i64 E) := h.hd.cell 0 _ rfl
  have d1 : w.cell? ⟨d, 1, none⟩ = some (.slice (some ⟨db, 0, none⟩) W W) := h.hd.cell 1 _ rfl
  have lb := h.wk.lt
  have ld := h.hd.lt
  have hne := h.ne
  have hn1 : w.heap.size ≠ db := by omega
  have hn2 : w.heap.size ≠ d := by omega
  have j0 : (0 : Int) ≤ (i : Int) := by omega
  have j1 : (i : Int) < (W : Int) := by omega
  rw [hop] at k0
  have HC := Lib.hid hc
  have z4 : ((5 : Nat) : Int) = 5 := rfl
  rw [z4] at k0
  clear h hop hc hb0 z4
  go_enter Try.func19, Try.ntmps19
  go_wp2_with fail
  with_reducible refine HT.out.mono ?_
  rintro e w1 ⟨rfl, hw⟩
  subst hw
  go_wp2_with fail
  with_reducible refine HC.out.mono ?_
  rintro e w6 ⟨qd, qe, qn, A, l, c, rfl, hq, ho⟩
  have kr6 := KR.out.off ho (by simp [hn1, hn2])
  have z0 := kr6.cell 0 _ rfl
  have z1 := kr6.cell 1 _ rfl
  have z2 := kr6.cell 2 _ rfl
  have z3 := kr6.cell 3 _ rfl
  have y0 := kr6.froz 0 (by simp)
  have y1 := kr6.froz 1 (by simp)
  have y2 := kr6.froz 2 (by simp)
  have y3 := kr6.froz 3 (by simp)
  have zl := kr6.lt
  have H6 := Lib.hid (And.intro hq kr6)
  clear hq ho kr6 HC HT
  go_wp2
  have hp := off_put4 (Off.refl [w.heap.size] w6) (r := w.heap.size) (by simp) (.bool qd) (.int .i64 qe) (.int .i64 qn) (.slice A l c)
  have kf := H6.out.2.put4 (.bool qd) (.int .i64 qe) (.int .i64 qn) (.slice A l c)
  have q0 := kf.cell 0 _ rfl
  have q1 := kf.cell 1 _ rfl
  have q2 := kf.cell 2 _ rfl
  have q3 := kf.cell 3 _ rfl
  refine bodyPost_ret (v := .tuple #[.agg #[.bool qd, .int .i64 qe, .int .i64 qn, .slice A l c], .int .i64 0]) ?_ ?_ ?_
  · simp [results, Try.results19, go_sem, q0, q1, q2, q3]
  · rfl
  · exact ⟨qd, qe, qn, A, l, c, w6, rfl, H6.out.1, hp⟩

set_option maxHeartbeats 3200000 in
theorem dstep_unpin (h : DrS w d db W E f) (i : Nat) (hi : i < W) (hop : (f i).op = 2) :
    Calls Try.prog 19 #[PV d, IV i] w (DtE w fun qd qe qn A l c w6 => qd = true ∧ qe = 0 ∧ qn = 0 ∧ A = none ∧ l = 0 ∧ c = 0 ∧ DrS w6 d db W E (updF f i { f i with P := 0, pn := false, op := 0 }) ∧ Off [db] w w6) := by
  have hb0 := (Below.refl w.heap.size w).alloc (Nat.le_refl _) RD
  have hc2 : DrS ((w.setCell ⟨db, i * 7 + 6, none⟩ (.int .i64 0)).setCell ⟨db, i * 7 + 4, none⟩ (.bool false)) d db W E (updF f i { f i with P := 0, pn := false }) := by
    have := (h.s6 hi 0).s4 hi false
    simp only [updF_same, updF_updF] at this
    exact this
  have hal := (Below.refl _ ((w.setCell ⟨db, i * 7 + 6, none⟩ (.int .i64 0)).setCell ⟨db, i * 7 + 4, none⟩ (.bool false))).alloc (Nat.le_refl _) RD
  have hend := dend_any (hc2.below hal) i hi 0 0
  simp only [updF_same, updF_updF] at hend
  have HEND := Lib.hid hend
  have ho2 : Off [db] w (((w.setCell ⟨db, i * 7 + 6, none⟩ (.int .i64 0)).setCell ⟨db, i * 7 + 4, none⟩ (.bool false)).alloc RD) := (((Off.refl [db] w).setCell (p := ⟨db, i * 7 + 6, none⟩) (by simp) (.int .i64 0)).setCell (p := ⟨db, i * 7 + 4, none⟩) (by simp) (.bool false)).alloc RD
  have kr2 : BlkL (((w.setCell ⟨db, i * 7 + 6, none⟩ (.int .i64 0)).setCell ⟨db, i * 7 + 4, none⟩ (.bool false)).alloc RD) w.heap.size _ := (by have := BlkL.new ((w.setCell ⟨db, i * 7 + 6, none⟩ (.int .i64 0)).setCell ⟨db, i * 7 + 4, none⟩ (.bool false)) [.bool false, .int .i64 0, .int .i64 0, .slice none 0 0] 41; simpa only [World.size_setCell] using this)
  have HT := Lib.hid (there_any (h.below hb0) (i : Int))
  rw [show inB (i : Int) W = true from inB_iff.mpr (by omega)] at HT
  have KR := Lib.hid (BlkL.new w [.bool false, .int .i64 0, .int .i64 0, .slice none 0 0] 41)
  have k0 : w.cell? ⟨db, i * 7, none⟩ = some (.int .u8 ((f i).op : Int)) := h.k (c := 0) hi (by omega)
  have d0 : w.cell? ⟨d, 0, none⟩ = some (.int .i64 E) := h.hd.cell 0 _ rfl
  have d1 : w.cell? ⟨d, 1, none⟩ = some (.slice (some ⟨db, 0, none⟩) W W) := h.hd.cell 1 _ rfl
  have lb := h.wk.lt
  have ld := h.hd.lt
  have hne := h.ne
  have hn1 : w.heap.size ≠ db := by omega
  have hn2 : w.heap.size ≠ d := by omega
  have j0 : (0 : Int) ≤ (i : Int) := by omega
  have j1 : (i : Int) < (W : Int) := by omega
  rw [hop] at k0
  have k6 : w.cell? ⟨db, i * 7 + 6, none⟩ = some (.int .i64 (f i).P) := h.k (c := 6) hi (by omega)
  have k4 : w.cell? ⟨db, i * 7 + 4, none⟩ = some (.bool (f i).pn) := h.k (c := 4) hi (by omega)
  have f6 := h.fr (i := i) (c := 6) hi (by omega)
  have f4 := h.fr (i := i) (c := 4) hi (by omega)
  have HH := Lib.hid (And.intro ho2 kr2)
  have z4 : ((2 : Nat) : Int) = 2 := rfl
  rw [z4] at k0
  clear h hop hb0 z4 hend ho2 kr2 hal hc2
  go_enter Try.func19, Try.ntmps19
  go_wp2_with fail
  with_reducible refine HT.out.mono ?_
  rintro e w1 ⟨rfl, hw⟩
  subst hw
  go_wp2_with fail
  with_reducible refine HEND.out.mono ?_
  rintro e w6 ⟨rfl, h6, ho⟩
  have kr6 := HH.out.2.off ho (by simp [hn1])
  have z0 := kr6.cell 0 _ rfl
  have z1 := kr6.cell 1 _ rfl
  have z2 := kr6.cell 2 _ rfl
  have z3 := kr6.cell 3 _ rfl
  have y0 := kr6.froz 0 (by simp)
  have y1 := kr6.froz 1 (by simp)
  have y2 := kr6.froz 2 (by simp)
  have y3 := kr6.froz 3 (by simp)
  have zl := kr6.lt
  have H6 := Lib.hid (And.intro h6 (And.intro (HH.out.1.trans ho) kr6))
  clear h6 ho kr6 HEND HT HH
  go_wp2
  have hp := off_put4 (Off.refl [w.heap.size] w6) (r := w.heap.size) (by simp) (.bool true) (.int .i64 0) (.int .i64 0) (.slice none 0 0)
  have kf := H6.out.2.2.put4 (.bool true) (.int .i64 0) (.int .i64 0) (.slice none 0 0)
  have q0 := kf.cell 0 _ rfl
  have q1 := kf.cell 1 _ rfl
  have q2 := kf.cell 2 _ rfl
  have q3 := kf.cell 3 _ rfl
  refine bodyPost_ret (v := .tuple #[.agg #[.bool true, .int .i64 0, .int .i64 0, .slice none 0 0], .int .i64 0]) ?_ ?_ ?_
  · simp [results, Try.results19, go_sem, q0, q1, q2, q3]
  · rfl
  · exact ⟨true, 0, 0, none, 0, 0, w6, rfl, ⟨rfl, rfl, rfl, rfl, rfl, rfl, H6.out.1, H6.out.2.1⟩, hp⟩

theorem dstep_none (h : DrS w d db W E f) (i : Nat) (hi : i < W) (hop : (f i).op = 0) : Calls Try.prog 19 #[PV d, IV i] w fun e w' => e = .returned (.tuple #[.agg #[.bool false, .int .i64 0, .int .i64 0, .slice none 0 0], .int .i64 7]) ∧ Below w.heap.size w w' := by
  have hb0 := (Below.refl w.heap.size w).alloc (Nat.le_refl _) RD
  have HT := Lib.hid (there_any (h.below hb0) (i : Int))
  rw [show inB (i : Int) W = true from inB_iff.mpr (by omega)] at HT
  have KR := Lib.hid (BlkL.new w [.bool false, .int .i64 0, .int .i64 0, .slice none 0 0] 41)
  have k0 : w.cell? ⟨db, i * 7, none⟩ = some (.int .u8 ((f i).op : Int)) := h.k (c := 0) hi (by omega)
  have d0 : w.cell? ⟨d, 0, none⟩ = some (.int .i64 E) := h.hd.cell 0 _ rfl
  have d1 : w.cell? ⟨d, 1, none⟩ = some (.slice (some ⟨db, 0, none⟩) W W) := h.hd.cell 1 _ rfl
  have lb := h.wk.lt
  have ld := h.hd.lt
  have hne := h.ne
  have hn1 : w.heap.size ≠ db := by omega
  have hn2 : w.heap.size ≠ d := by omega
  have j0 : (0 : Int) ≤ (i : Int) := by omega
  have j1 : (i : Int) < (W : Int) := by omega
  rw [hop] at k0
  have z4 : ((0 : Nat) : Int) = 0 := rfl
  rw [z4] at k0
  have KB := Lib.hid (And.intro KR.out hb0)
  clear h hop hb0 z4
  go_enter Try.func19, Try.ntmps19
  go_wp2_with fail
  with_reducible refine HT.out.mono ?_
  rintro e w1 ⟨rfl, hw⟩
  subst hw
  go_wp2
  have q0 := KB.out.1.cell 0 _ rfl
  have q1 := KB.out.1.cell 1 _ rfl
  have q2 := KB.out.1.cell 2 _ rfl
  have q3 := KB.out.1.cell 3 _ rfl
  refine bodyPost_ret (v := .tuple #[.agg #[.bool false, .int .i64 0, .int .i64 0, .slice none 0 0], .int .i64 7]) ?_ ?_ ?_
  · simp [results, Try.results19, go_sem, q0, q1, q2, q3]
  · rfl
  · exact ⟨rfl, KB.out.2⟩

theorem dstep_who (w : World) (p : Value) (who : Int) (HT0 : ∀ w1, Calls Try.prog 56 #[p, .int .i64 who] w1 fun e w' => e = .returned (.bool false) ∧ w1 = w') : Calls Try.prog 19 #[p, .int .i64 who] w fun e w' => e = .returned (.tuple #[.agg #[.bool false, .int .i64 0, .int .i64 0, .slice none 0 0], .int .i64 1]) ∧ Below w.heap.size w w' := by
  have hb0 := (Below.refl w.heap.size w).alloc (Nat.le_refl _) RD
  have KB := Lib.hid (And.intro (BlkL.new w [.bool false, .int .i64 0, .int .i64 0, .slice none 0 0] 41) hb0)
  have HT := Lib.hid (HT0 (w.alloc RD))
  clear hb0 HT0
  go_enter Try.func19, Try.ntmps19
  go_wp2_with fail
  with_reducible refine HT.out.mono ?_
  rintro e w1 ⟨rfl, hw⟩
  subst hw
  go_wp2
  have q0 := KB.out.1.cell 0 _ rfl
  have q1 := KB.out.1.cell 1 _ rfl
  have q2 := KB.out.1.cell 2 _ rfl
  have q3 := KB.out.1.cell 3 _ rfl
  refine bodyPost_ret (v := .tuple #[.agg #[.bool false, .int .i64 0, .int .i64 0, .slice none 0 0], .int .i64 1]) ?_ ?_ ?_
  · simp [results, Try.results19, go_sem, q0, q1, q2, q3]
  · rfl
  · exact ⟨rfl, KB.out.2⟩

end
end Go.Proofs.Ytpjgpiiibgogeaa
