/- The law EpochOwn: own lists of numbers that begin anywhere in their block; its walk. -/
import Derived.Test.YtpjgpiiibgogeaaEpY
import Derived.Test.YtpjgpiiibgogeaaEnM
import Derived.BigQuiet

/- Own lists of numbers that begin anywhere in their block. -/
namespace Go.Proofs.Ytpjgpiiibgogeaa
open Go.RowKit
set_option maxRecDepth 100000
set_option linter.unusedVariables false

theorem add_lit' (g o k : Nat) : (⟨g, o, none⟩ : Addr).add k = ⟨g, o + k, none⟩ := by unfold Addr.add; split <;> simp_all
structure OwnO (w : World) (B : Nat) (A : Option Addr) (n c : Nat) (zs : List Int) : Prop where
  len : zs.length = n
  le : n ≤ c
  cap : c ≤ maxLen
  none_ : A = none → n = 0 ∧ c = 0
  at_ : ∀ a, A = some a → a = ⟨a.block, a.off, none⟩ ∧ B ≤ a.block ∧ a.block < w.heap.size ∧
    (∀ j, j < c → (w.cell? ⟨a.block, a.off + j, none⟩).isSome = true ∧ w.frozen? ⟨a.block, a.off + j, none⟩ = false) ∧ ∀ j, j < n → w.cell? ⟨a.block, a.off + j, none⟩ = some (.int .i64 (zs.getD j 0))
section
variable {w w' : World} {B n c : Nat} {A : Option Addr} {zs : List Int} {S X : List Nat}
theorem OwnO.nil (w : World) (B : Nat) : OwnO w B none 0 0 [] := ⟨rfl, Nat.le_refl _, by unfold maxLen; omega, fun _ => ⟨rfl, rfl⟩, fun a h => by cases h⟩
theorem OwnO.off (h : OwnO w B A n c zs) (hf : Off S w w') (hS : ∀ y ∈ thX A, y ∉ S) : OwnO w' B A n c zs := by
  refine ⟨h.len, h.le, h.cap, h.none_, fun a ha => ?_⟩
  obtain ⟨h1, h2, h3, h4, h5⟩ := h.at_ a ha
  have hn : a.block ∉ S := hS _ (by rw [ha]; simp [thX])
  refine ⟨h1, h2, Nat.lt_of_lt_of_le h3 hf.size, fun j hj => ?_, fun j hj => ?_⟩
  · rw [hf.cell (p := ⟨a.block, a.off + j, none⟩) h3 hn, hf.frozen (p := ⟨a.block, a.off + j, none⟩) h3 hn]; exact h4 j hj
  · rw [hf.cell (p := ⟨a.block, a.off + j, none⟩) h3 hn]; exact h5 j hj
theorem OwnO.below (h : OwnO w B A n c zs) (hb : Below w.heap.size w w') : OwnO w' B A n c zs := h.off (S := []) (Off.of_below hb) (by simp)
theorem OwnO.frx {B' : Nat} (h : OwnO w B A n c zs) (hf : FrX B' X w w') (hA : ∀ y ∈ thX A, y ∈ X) : OwnO w' B A n c zs := by
  obtain ⟨S, h1, h2⟩ := hf
  exact h.off h1 (fun y hy hm => (h2 _ hm).2 (hA y hy))
theorem OwnO.lt (h : OwnO w B A n c zs) : ∀ y ∈ thX A, B ≤ y ∧ y < w.heap.size := by
  intro y hy
  obtain ⟨a, ha, rfl⟩ := thX_mem y hy
  have := h.at_ a ha
  exact ⟨this.2.1, this.2.2.1⟩
theorem OwnO.argI (h : OwnO w B A n c zs) : ArgI w w.heap.size A n c zs := by
  refine ⟨h.len, h.le, h.cap, h.none_, fun hn => ?_⟩
  cases hA : A with
  | none => have := h.none_ hA; omega
  | some a =>
    obtain ⟨h1, h2, h3, h4, h5⟩ := h.at_ a hA
    exact ⟨a.block, a.off, by rw [h1], h3, h5⟩
/-- A piece from q on. -/
theorem OwnO.from_ (h : OwnO w B A n c zs) {q : Nat} (hq : q ≤ n) : OwnO w B (if c = q then A else A.map (·.add q)) (n - q) (c - q) (zs.drop q) := by
  have hle := h.le
  refine ⟨by rw [List.length_drop, h.len], by omega, by have := h.cap; omega, fun he => ?_, fun a ha => ?_⟩
  · have hA : A = none := by
      split at he
      · exact he
      · cases A with
        | none => rfl
        | some a => cases he
    have := h.none_ hA
    omega
  · split at ha
    · rename_i hc
      obtain ⟨h1, h2, h3, h4, h5⟩ := h.at_ a ha
      exact ⟨h1, h2, h3, fun j hj => h4 j (by omega), fun j hj => by omega⟩
    · cases hA : A with
      | none => rw [hA] at ha; cases ha
      | some b =>
        rw [hA] at ha
        obtain ⟨h1, h2, h3, h4, h5⟩ := h.at_ b hA
        have e : a = b.add q := by simpa using ha.symm
        have e2 : b.add q = ⟨b.block, b.off + q, none⟩ := (congrArg (fun z : Addr => z.add q) h1).trans (add_lit' _ _ _)
        rw [e, e2]
        refine ⟨rfl, h2, h3, fun j hj => ?_, fun j hj => ?_⟩
        · have := h4 (q + j) (by omega)
          rw [show b.off + (q + j) = b.off + q + j by omega] at this
          exact this
        · have := h5 (q + j) (by omega)
          rw [show b.off + (q + j) = b.off + q + j by omega] at this
          rw [this]
          simp [List.getD_eq_getElem?_getD, List.getElem?_drop]
/-- An append of one number. -/
theorem wpList_append_o {ops : Array Oper} {rest : List Oper} {o : Oper} {a : Act} {Q : Exit → Act → World → Prop} (hgd : o.guard = none) (s x : Operand)
    (ho : o.op = .call { callee := .builtin .append, args := #[s, x], argTypes := #[35, 35] })
    (hs : a.eval s = .slice A n c) (hown : OwnO w B A n c zs) (p m : Nat) (t : Int) (hx : a.eval x = .slice (some ⟨p, 0, none⟩) 1 m) (hp : BlkL w p [.int .i64 t]) (hn : n + 1 ≤ 1000000) (hB : B ≤ w.heap.size)
    (h : ∀ A' c' w', OwnO w' B A' (n + 1) c' (zs ++ [t]) → Off (thX A) w w' → (∀ y ∈ thX A', y ∈ thX A ∨ y = w.heap.size ∧ y < w'.heap.size) → wpList Try.prog ops Q rest (a.put o.dst (.slice A' (n + 1) c')) w') : wpList Try.prog ops Q (o :: rest) a w := by
  obtain ⟨i0, hi, hz0, hz1, hz2⟩ := info_parts int_info
  have hcp := hown.cap
  have hle := hown.le
  have hzl := hown.len
  unfold maxLen at hcp
  have hnews : ∀ j u, [Value.int .i64 t][j]? = some u → w.cell? ((⟨p, 0, none⟩ : Addr).add j) = some u := fun j u hu => by
    rw [add_lit']; rw [Nat.zero_add]; exact hp.cell j u hu
  have h1 : ∀ u ∈ [Value.int .i64 t], u.oneCell' = true := fun u hu => by simp only [List.mem_cons, List.not_mem_nil, or_false] at hu; subst hu; rfl
  have hl : [Value.int .i64 t].length = 1 * i0.size := by rw [hz1]; rfl
  refine wpList_plain hgd fun K hK => ?_
  have key : ∃ A' c' w', (∀ ty, (Builtin.append_ #[35, 35] ty #[.slice A n c, .slice (some ⟨p, 0, none⟩) 1 m]).run Try.prog w = .ok (.slice A' (n + 1) c') w') ∧ OwnO w' B A' (n + 1) c' (zs ++ [t]) ∧ Off (thX A) w w' ∧ (∀ y ∈ thX A', y ∈ thX A ∨ y = w.heap.size ∧ y < w'.heap.size) := by
    have grown : ∀ (old : Nat), n + 1 ≤ grownCap w (n + 1) old 3 ∧ grownCap w (n + 1) old 3 ≤ maxLen ∧
        OwnO (w.drew.alloc (.cells ((zs.map V64).toArray ++ [Value.int .i64 t].toArray ++ Builtin.zeroCells (Value.int .i64 0).cells (grownCap w (n + 1) old 3 - (n + 1))) 3)) B (some ⟨w.heap.size, 0, none⟩) (n + 1) (grownCap w (n + 1) old 3) (zs ++ [t]) := by
      intro old
      have g1 := grownCap_ge w (n + 1) old 3
      have g2 := grownCap_le_maxLen w (n + 1) old 3 (by unfold maxLen; omega)
      refine ⟨g1, g2, ⟨by simp [hzl], g1, g2, fun e => by simp at e, fun b hb => ?_⟩⟩
      injection hb with hb
      subst hb
      have hblk : (w.drew.alloc (.cells ((zs.map V64).toArray ++ [Value.int .i64 t].toArray ++ Builtin.zeroCells (Value.int .i64 0).cells (grownCap w (n + 1) old 3 - (n + 1))) 3)).heap[w.heap.size]? = _ := heap_alloc_new w.drew _
      refine ⟨rfl, hB, by simp, fun j hj => ⟨?_, frozen_of_row _ _ _ _ _ hblk⟩, fun j hj => ?_⟩
      · show (World.cell? _ ⟨w.heap.size, 0 + j, none⟩).isSome = true
        rw [Nat.zero_add, cell_of_row _ _ _ _ _ (0, 0) hblk]
        rw [Array.getElem?_eq_getElem (by simp [size_zeroCells, hzl, Value.cells]; omega)]
        rfl
      · show World.cell? _ ⟨w.heap.size, 0 + j, none⟩ = _
        rw [Nat.zero_add, cell_of_row _ _ _ _ _ (0, 0) hblk, ← Array.getElem?_toList]
        simp only [Array.toList_append, List.append_assoc]
        rcases Nat.lt_or_ge j n with hjn | hjn
        · rw [List.getElem?_append_left (by simp [hzl]; omega)]
          simp [List.getD_eq_getElem?_getD, List.getElem?_append_left, hzl, hjn]
        · obtain rfl : j = n := by omega
          rw [List.getElem?_append_right (by simp [hzl])]
          simp [List.getD_eq_getElem?_getD, hzl]
    cases A with
    | none =>
      obtain ⟨rfl, rfl⟩ := hown.none_ rfl
      obtain rfl : zs = [] := List.eq_nil_of_length_eq_zero hzl
      obtain ⟨g1, g2, g3⟩ := grown 0
      refine ⟨_, _, _, fun ty => run_append_nil (P := Try.prog) w 35 ty 3 i0 (.int .i64 0) Try.underlying35 hi hz0 ⟨p, 0, none⟩ 1 m _ hl hnews (by omega) (by omega) (by rw [hz2]; omega), ?_, ?_, ?_⟩
      · simpa using g3
      · exact ⟨rfl, rfl, rfl, by simp, fun k hk _ => heap_alloc_old w.drew _ hk⟩
      · intro y hy; simp [thX] at hy; exact .inr ⟨hy, by rw [hy]; simp⟩
    | some b =>
      obtain ⟨b1, b2, b3, b4, b5⟩ := hown.at_ b rfl
      obtain ⟨bb, bo, bs⟩ := b
      simp only [Addr.mk.injEq, true_and] at b1
      subst b1
      simp only at b2 b3 b4 b5
      by_cases hroom : n + 1 ≤ c
      · refine ⟨some ⟨bb, bo, none⟩, c, w.setCell ⟨bb, bo + n, none⟩ (.int .i64 t), fun ty => ?_, ?_, ?_, ?_⟩
        · have hf := run_firstCells_some (P := Try.prog) w i0.size 1 ⟨p, 0, none⟩ 1 m _ hl hnews
          have hst := run_storeCells_cells (P := Try.prog) bb (bo + n) [Value.int .i64 t] 0 w (fun j hj => by
            obtain rfl : j = 0 := by simpa using hj
            exact (b4 n (by omega)).1) (fun j hj => by
            obtain rfl : j = 0 := by simpa using hj
            exact (b4 n (by omega)).2) h1
          have ea : (⟨bb, bo, none⟩ : Addr).add (n * i0.size) = ⟨bb, bo + n, none⟩ := by rw [hz1, Nat.mul_one, add_lit']
          simp [Builtin.append_, run_underlying Try.underlying35, sizeOf, typeInfo, hi, Builtin.lenOf, hroom, hf, ea, hst, World.setCells]
        · refine ⟨by simp [hzl], hroom, hown.cap, fun e => by simp at e, fun b hb => ?_⟩
          injection hb with hb
          subst hb
          refine ⟨rfl, b2, by simpa using b3, fun j hj => ?_, fun j hj => ?_⟩
          · show (World.cell? _ ⟨bb, bo + j, none⟩).isSome = true ∧ World.frozen? _ ⟨bb, bo + j, none⟩ = false
            by_cases e : j = n
            · subst e
              obtain ⟨u, hu⟩ := Option.isSome_iff_exists.1 (b4 _ hj).1
              exact ⟨by rw [World.cell?_setCell_same _ _ _ hu]; rfl, by simpa using (b4 _ hj).2⟩
            · exact ⟨by rw [World.cell?_setCell_other _ _ _ _ (by simp <;> omega)]; exact (b4 _ hj).1, by simpa using (b4 _ hj).2⟩
          · show World.cell? _ ⟨bb, bo + j, none⟩ = _
            rcases Nat.lt_or_ge j n with hjn | hjn
            · rw [World.cell?_setCell_other _ _ _ _ (by simp <;> omega), b5 j hjn]
              simp [List.getD_eq_getElem?_getD, List.getElem?_append_left, hzl, hjn]
            · obtain rfl : j = n := by omega
              obtain ⟨u, hu⟩ := Option.isSome_iff_exists.1 (b4 j (by omega)).1
              rw [World.cell?_setCell_same _ _ _ hu]
              simp [List.getD_eq_getElem?_getD, hzl]
        · exact (Off.refl _ _).setCell (by simp [thX]) _
        · intro y hy; exact .inl hy
      · obtain ⟨g1, g2, g3⟩ := grown c
        have hold : ∀ j v, (zs.map V64)[j]? = some v → w.cell? ((⟨bb, bo, none⟩ : Addr).add j) = some v := fun j v hv => by
          have hj : j < n := by have := (List.getElem?_eq_some_iff.1 hv).1; simpa [hzl] using this
          rw [add_lit', b5 j hj, ← hv]
          simp [List.getD_eq_getElem?_getD, hzl, hj]
        refine ⟨_, _, _, fun ty => run_append_grow (P := Try.prog) w 35 ty 3 i0 (.int .i64 0) Try.underlying35 hi hz0 ⟨bb, bo, none⟩ n c (zs.map V64) (by rw [hz1]; simp [hzl]) hold ⟨p, 0, none⟩ 1 m _ hl hnews (by omega) (by omega) (growslice_fits (by omega) (by rw [hz2]; omega)), g3, ⟨rfl, rfl, rfl, by simp, fun k hk _ => heap_alloc_old w.drew _ hk⟩, ?_⟩
        intro y hy; simp [thX] at hy; exact .inr ⟨hy, by rw [hy]; simp⟩
  obtain ⟨A', c', w', hr, k1, k2, k3⟩ := key
  have hr' := hr o.type
  unfold Oper.wp execOp
  simp only [ho, resolve, invoke, builtin, Sem.run_bind, Sem.run_pure, Result.andThen_ok, List.map_toArray, List.map_cons, List.map_nil, hs, hx, hr']
  exact hK _ _ (h A' c' w' k1 k2 k3)
end
end Go.Proofs.Ytpjgpiiibgogeaa


/- The law EpochOwn: its walk. -/
namespace Go.Proofs.Ytpjgpiiibgogeaa
open Go.RowKit
set_option maxRecDepth 100000
set_option linter.unusedVariables false

theorem blkF_ofL {w : World} {b n : Nat} {f : Nat → Value} {xs : List Value} (h : BlkL w b xs) (hn : xs.length = n) (hf : ∀ j, j < n → xs[j]? = some (f j)) : BlkF w b n f :=
  ⟨h.lt, fun j hj => h.cell j _ (hf j hj), fun j hj => h.froz j (by omega)⟩
theorem BlkF.congrF {w : World} {b n : Nat} {f g : Nat → Value} (h : BlkF w b n f) (hf : ∀ j, j < n → f j = g j) : BlkF w b n g :=
  ⟨h.lt, fun j hj => (h.cell j hj).trans (by rw [hf j hj]), h.froz⟩
theorem sli_info : (Try.prog.info? 35).map (fun i => (i.zero, i.size, i.bytes)) = some (some (.slice none 0 0), 1, 24) := by kernel_rfl
theorem who3e_lt (x : Int) : (x % 18446744073709551616 % 3).toNat < 3 := by omega
theorem who3e_eq (x : Int) : (IntKind.u64.wrap x).tmod 3 = ((x % 18446744073709551616 % 3).toNat : Int) := by
  rw [u64e, Int.tmod_eq_emod_of_nonneg (by omega)]
  omega
/-- Where a piece from k on lies. -/
def frO (A : Option Addr) (c k : Nat) : Option Addr := if c = k then A else A.map (·.add k)
theorem elem_int : Try.prog.underlying 35 = some (.slice (Try.prog.elem 35)) := by kernel_rfl
theorem size_int (w : World) : (sizeOf (Try.prog.elem 35)).run Try.prog w = .ok 1 w := by kernel_rfl
theorem run_from_int2 (w : World) (A : Option Addr) (n c k : Nat) (hk : k ≤ n) : (Instr.slice 35 (.slice A n c) (some (.int .i64 (k : Int))) none none).run Try.prog w = .ok (.slice (frO A c k) (n - k) (c - k)) w := by
  rw [run_slice_l (ht := elem_int) (h0 := by omega) (h1 := by omega), size_int]
  simp [Result.andThen, sliced, frO]
theorem run_from_int (w : World) (A : Option Addr) (n c k : Nat) (hk : k ≤ n) : (Instr.sliceAt 35 (.slice A n c) (some (.int .i64 (k : Int))) none none).run Try.prog w = .ok (.slice (frO A c k) (n - k) (c - k)) w := by
  rw [run_sliceAt_slice (h := elem_int), run_from_int2 w A n c k hk]
theorem frO_thX {A : Option Addr} {c k : Nat} : ∀ y ∈ thX (frO A c k), y ∈ thX A := by
  intro y hy
  unfold frO at hy
  split at hy
  · exact hy
  · cases A with
    | none => simp [thX] at hy
    | some a => simp only [Option.map_some, thX, List.mem_cons, List.not_mem_nil, or_false] at hy ⊢; rw [hy]; unfold Addr.add; split <;> rfl
structure OwS (w wr : World) (x H k : Nat) (s : EpV) (rA : Nat → Option Addr) (rc : Nat → Nat) (X : List Nat) : Prop where
  c : EpC w wr x 3 X k s
  h : BlkF wr H 3 (fun j => .slice (rA j) (s.wk j).gs.length (rc j))
  r : ∀ j, j < 3 → OwnO wr w.heap.size (rA j) (s.wk j).gs.length (rc j) ((s.wk j).gs.map (·.1))
  hX : H ∈ X
  rX : ∀ j, j < 3 → ∀ y ∈ thX (rA j), y ∈ X
  dis : ∀ i j, i < 3 → j < 3 → i ≠ j → ∀ y ∈ thX (rA i), y ∉ thX (rA j)
  hr : ∀ j, j < 3 → H ∉ thX (rA j)
  nx : ∀ j, j < 3 → (s.wk j).nx = .none
  ge : w.heap.size ≤ H
theorem OwS.below {w wr w' : World} {x H k : Nat} {s : EpV} {rA : Nat → Option Addr} {rc : Nat → Nat} {X : List Nat} (h : OwS w wr x H k s rA rc X) (hb : Below wr.heap.size wr w') : OwS w w' x H k s rA rc X :=
  ⟨h.c.below hb, h.h.off (Off.of_below (S := []) hb) (by simp), fun j hj => (h.r j hj).below hb, h.hX, h.rX, h.dis, h.hr, h.nx, h.ge⟩
theorem EpR.reOff {w w' : World} {B x b bw wb W : Nat} {X X' S : List Nat} {k : Nat} {s : EpV} {fv : Nat → Value} {rA : Nat → Option Addr} {rc : Nat → Nat} {ring : List Value} (h : EpR w B x b bw wb W X k s fv rA rc ring) (hf : Off S w w') (hS : ∀ y ∈ S, y ∈ X) (hX : ∀ y ∈ X', y ∈ X ∨ (w.heap.size ≤ y ∧ y < w'.heap.size)) : EpR w' B x b bw wb W X' k s fv rA rc ring := by
  have h' := h.offX hf hS
  obtain ⟨l1, l2, l3, l4⟩ := h.lts
  have hsub : ∀ p, p < w.heap.size → QE x b bw wb W X' rA p → QE x b bw wb W X rA p := fun p hp hq => by
    rcases hq with hq | hq
    · left
      simp only [List.mem_cons] at hq ⊢
      rcases hq with e | e | e | e | e
      · exact .inl e
      · exact .inr (.inl e)
      · exact .inr (.inr (.inl e))
      · exact .inr (.inr (.inr (.inl e)))
      · rcases hX _ e with e2 | e2
        · exact .inr (.inr (.inr (.inr e2)))
        · omega
    · exact .inr hq
  refine ⟨h'.xb, h'.m, h'.wk, h'.row, h'.dis, fun j hj a ha hm => ?_, fun j hj => ?_, h'.nx, fun y hy hm => ?_, fun y hy => ?_, h'.w64, h'.ge⟩
  · have hlt := ((h.row j hj).lt a ha).2
    have hr := h.rX j hj a ha
    simp only [List.mem_cons, not_or] at hr hm
    rcases hm with e | e | e | e | e
    · exact hr.1 e
    · exact hr.2.1 e
    · exact hr.2.2.1 e
    · exact hr.2.2.2.1 e
    · rcases hX _ e with e2 | e2
      · exact hr.2.2.2.2 e2
      · omega
  · exact (((h.cl j hj).weak (Q' := fun p => QE x b bw wb W X rA p ∨ QE x b bw wb W X' rA p) (fun p hp hq => hq.elim id (hsub p hp))).off hf (fun y hy => .inl (.inl (by have := hS y hy; simp [this])))).weak (fun p _ hq => .inr hq)
  · rcases hX y hy with e | e
    · exact h.nX y e hm
    · simp only [List.mem_cons, List.not_mem_nil, or_false] at hm
      omega
  · rcases hX y hy with e | e
    · have := h.hX y e; have := hf.size; omega
    · exact e.2
theorem EpC.reOff {w0 w w' : World} {x W k : Nat} {X X' S : List Nat} {s : EpV} (h : EpC w0 w x W X k s) (hf : Off S w w') (hS : ∀ y ∈ S, y ∈ X ∧ w0.heap.size ≤ y) (hX : ∀ y ∈ X', y ∈ X ∨ (w.heap.size ≤ y ∧ y < w'.heap.size)) : EpC w0 w' x W X' k s := by
  obtain ⟨b, bw, wb, fv, rA, rc, ring, e⟩ := h.ex
  exact ⟨⟨b, bw, wb, fv, rA, rc, ring, e.reOff hf (fun y hy => (hS y hy).1) hX⟩, h.bel.trans (hf.below h.bel.size (fun y hy => (hS y hy).2)), h.inv, h.ek⟩
structure MidS (w wr : World) (x H k : Nat) (s : EpV) (rA : Nat → Option Addr) (rc : Nat → Nat) (X : List Nat) (q : Nat) (L : List Int) (Ax : Option Addr) (cx : Nat) (th : List Int) (r : Nat) (te : Nat) (tn : Int) : Prop where
  c : EpC w wr x 3 X k s
  h : BlkF wr H 3 (fun j => .slice (rA j) (if j = q then L.length else (s.wk j).gs.length) (rc j))
  rq : OwnO wr w.heap.size (rA q) L.length (rc q) L
  rr : ∀ j, j < 3 → j ≠ q → OwnO wr w.heap.size (rA j) (s.wk j).gs.length (rc j) ((s.wk j).gs.map (·.1))
  hX : H ∈ X
  rX : ∀ j, j < 3 → ∀ y ∈ thX (rA j), y ∈ X
  dis : ∀ i j, i < 3 → j < 3 → i ≠ j → ∀ y ∈ thX (rA i), y ∉ thX (rA j)
  hr : ∀ j, j < 3 → H ∉ thX (rA j)
  nx : ∀ j, j < 3 → (s.wk j).nx = .none
  ge : w.heap.size ≤ H
  tg : ArgI wr wr.heap.size Ax th.length cx th
  kr : BlkL wr r [.bool true, .int .i64 (te : Int), .int .i64 tn, .slice Ax th.length cx]
  eq : th = L.take th.length
  dr : (s.wk q).gs.map (·.1) = L.drop th.length
theorem MidS.below {w wr w' : World} {x H k : Nat} {s : EpV} {rA : Nat → Option Addr} {rc : Nat → Nat} {X : List Nat} {q : Nat} {L : List Int} {Ax : Option Addr} {cx : Nat} {th : List Int} {r te : Nat} {tn : Int} (h : MidS w wr x H k s rA rc X q L Ax cx th r te tn) (hb : Below wr.heap.size wr w') : MidS w w' x H k s rA rc X q L Ax cx th r te tn :=
  ⟨h.c.below hb, h.h.off (Off.of_below (S := []) hb) (by simp), h.rq.below hb, fun j hj e => (h.rr j hj e).below hb, h.hX, h.rX, h.dis, h.hr, h.nx, h.ge, (h.tg.below hb).more hb.size, h.kr.off (Off.of_below (S := []) hb) (by simp), h.eq, h.dr⟩
theorem MidS.le {w wr : World} {x H k : Nat} {s : EpV} {rA : Nat → Option Addr} {rc : Nat → Nat} {X : List Nat} {q : Nat} {L : List Int} {Ax : Option Addr} {cx : Nat} {th : List Int} {r te : Nat} {tn : Int} (h : MidS w wr x H k s rA rc X q L Ax cx th r te tn) : th.length ≤ L.length := by
  have := congrArg List.length h.eq
  rw [List.length_take] at this
  omega
/-- The row's head is cut off. -/
theorem MidS.cut {w wr : World} {x H k : Nat} {s : EpV} {rA : Nat → Option Addr} {rc : Nat → Nat} {X : List Nat} {q : Nat} {L : List Int} {Ax : Option Addr} {cx : Nat} {th : List Int} {r te : Nat} {tn : Int} (h : MidS w wr x H k s rA rc X q L Ax cx th r te tn) (hq : q < 3) (m c : Nat) (hm : L.length - th.length = m) (hc : rc q - th.length = c) :
    OwS w (wr.drew.setCell ⟨H, q, none⟩ (.slice (frO (rA q) (rc q) th.length) m c)) x H k s (updF rA q (frO (rA q) (rc q) th.length)) (updF rc q c) X := by
  subst hm hc
  have hd := h.below (Below.refl wr.heap.size wr).drew
  have hp := (Off.refl [H] wr.drew).setCell (p := ⟨H, q, none⟩) (by simp) (.slice (frO (rA q) (rc q) th.length) (L.length - th.length) (rc q - th.length))
  have el : (s.wk q).gs.length = L.length - th.length := by
    have := congrArg List.length h.dr
    simpa using this
  have hsub : ∀ j, j < 3 → ∀ y ∈ thX (updF rA q (frO (rA q) (rc q) th.length) j), y ∈ thX (rA j) := fun j hj y hy => by
    by_cases e : j = q
    · subst e; rw [updF_same] at hy; exact frO_thX y hy
    · rw [updF_other _ _ _ _ e] at hy; exact hy
  refine ⟨hd.c.putX hp (fun y hy => by simp only [List.mem_cons, List.not_mem_nil, or_false] at hy; subst hy; exact ⟨h.hX, h.ge⟩), (hd.h.set q _ hq).congrF (fun j hj => ?_), fun j hj => ?_, h.hX, fun j hj y hy => h.rX j hj y (hsub j hj y hy), fun i j hi hj hij y hy hm => h.dis i j hi hj hij y (hsub i hi y hy) (hsub j hj y hm), fun j hj hm => h.hr j hj (hsub j hj _ hm), h.nx, h.ge⟩
  · by_cases e : j = q
    · subst e; rw [updF_same, updF_same, updF_same, el]
    · rw [updF_other _ _ _ _ e, updF_other _ _ _ _ e, updF_other _ _ _ _ e, if_neg e]
  · by_cases e : j = q
    · subst e
      rw [updF_same, updF_same, el, h.dr]
      exact (hd.rq.from_ h.le).off hp (fun y hy hm => h.hr j hj (by
        have := frO_thX (A := rA j) (c := rc j) (k := th.length) y hy
        simp only [List.mem_cons, List.not_mem_nil, or_false] at hm
        rwa [hm] at this))
    · rw [updF_other _ _ _ _ e, updF_other _ _ _ _ e]
      exact (hd.rr j hj e).off hp (fun y hy hm => h.hr j hj (by simp only [List.mem_cons, List.not_mem_nil, or_false] at hm; rwa [hm] at hy))
theorem same_row {w : World} {B B' m c9 cc : Nat} {A9 A : Option Addr} {l : List Int} (o : OwnC w B TI 1 A9 m c9 (thI l)) (h : OwnO w B' A m cc l) :
    Calls Try.prog 28 #[.slice A9 m c9, .slice A m cc] w (SameEndI w true) :=
  sameInts_any w _ _ A9 A m c9 m cc l l true (decide_eq_true rfl) (argI_of o.arg) h.argI
theorem eheldL {w0 w : World} {x W k : Nat} {X : List Nat} {s : EpV} (h : EpC w0 w x W X k s) (i : Nat) (hi : i < W) (m : Nat) (hm : (s.wk i).gs.length = m) :
    Calls Try.prog 21 #[PV x, IV i] w fun e w' => ∃ A c, e = .returned (.slice A m c) ∧ OwnC w' w.heap.size TI 1 A m c (thI ((s.wk i).gs.map (·.1))) ∧ Below w.heap.size w w' := by
  have h1 := eheldC h i hi
  unfold ThE at h1
  rw [List.length_map, hm] at h1
  exact h1
theorem MidS.same {w wr : World} {x H k : Nat} {s : EpV} {rA : Nat → Option Addr} {rc : Nat → Nat} {X : List Nat} {q : Nat} {L : List Int} {Ax : Option Addr} {cx : Nat} {th : List Int} {r te : Nat} {tn : Int} (h : MidS w wr x H k s rA rc X q L Ax cx th r te tn) (t : Nat) :
    Calls Try.prog 28 #[.slice Ax th.length cx, .slice (rA q) th.length (rc q)] (wr.drewN t) fun e w' => e = .returned (.bool true) ∧ ∃ m, w' = wr.drewN m := by
  have h1 := h.tg.below (below_drewN (Below.refl _ _) t)
  have h2 := (h.rq.argI.to_ h.le).below (below_drewN (Below.refl _ _) t)
  refine (sameInts_any (wr.drewN t) _ _ Ax (rA q) th.length cx th.length (rc q) th (L.take th.length) true (decide_eq_true h.eq) h1 h2).mono ?_
  rintro e w' ⟨he, m, rfl⟩
  exact ⟨he, _, World.drewN_drewN _ _ _⟩
def OwI (w : World) (x H n : Nat) (iv : Value) (wr : World) : Prop :=
  ∃ i k s rA rc X, i ≤ n ∧ i ≤ 200 ∧ iv = .int .i64 ((i : Nat) : Int) ∧ k ≤ 100 * i ∧ OwS w wr x H k s rA rc X ∧ ∀ j, j < 3 → (s.wk j).gs.length ≤ i
set_option maxHeartbeats 12800000 in
theorem epochOwn_walk (A : Option Addr) (n d : Nat) (l0 : List EpkV) (w : World) (h : ArgC w w.heap.size 3 A n d (FE l0)) (hd : d ≤ 5864062014805) (hok : okEpks l0) :
    Calls Try.prog 7 #[.slice A n d] w (ValEnd w (.bool true)) := by
  have hle := h.le
  have HAG := Lib.hid h
  have HOK := Lib.hid hok
  clear h hok
  go_enter Try.func7, Try.ntmps7
  go_wp2_with fail
  with_reducible refine (awake13_any _).mono ?_
  rintro e w1 ⟨rfl, hB⟩
  have HN : Hid (Calls Try.prog 14 #[.int .i64 3] w1 _) := Lib.hid (enewC w w1 hB 3 (by omega) (by omega))
  clear hB
  go_wp2_with fail
  with_reducible refine HN.out.mono ?_
  rintro e w2 ⟨x, rfl, c2, _⟩
  obtain ⟨i0, hi0, hz0, hz1, hz2⟩ := info_parts sli_info
  have hON : w.heap.size ≤ w2.heap.size := c2.bel.size
  have c3 := c2.newX (.cells (List.replicate 3 (.slice none 0 0)).toArray 35)
  have C3 : Hid (OwS w (w2.alloc (.cells (List.replicate 3 (.slice none 0 0)).toArray 35)) x w2.heap.size 0 (initE 3) (fun _ => none) (fun _ => 0) [w2.heap.size]) := Lib.hid ⟨c3, blkF_ofL (BlkL.new w2 (List.replicate 3 (.slice none 0 0)) 35) rfl (fun j hj => by
    rcases (by omega : j = 0 ∨ j = 1 ∨ j = 2) with rfl | rfl | rfl <;> rfl), fun j _ => OwnO.nil _ _, by simp, fun j _ y hy => by simp [thX] at hy, fun i j _ _ _ y hy => by simp [thX] at hy, fun j _ => by simp [thX], fun _ _ => rfl, hON⟩
  clear c2 c3 HN
  go_wp2_with (refine wpList_make_row _ rfl _ _ 64 rfl 35 i0 (.slice none 0 0) Try.underlying64 hi0 hz0 hz1 rfl .i64 .i64 3 rfl rfl (by rw [hz2]; omega) (by omega) ?_)
  rw [made_eq]
  generalize hw3 : w2.alloc (.cells (List.replicate 3 (.slice none 0 0)).toArray 35) = w3 at *
  clear hw3 hi0 hz0 hz1 hz2
  generalize w2.heap.size = H at *
  go_wp2
  go_loopw [27] (fun iv wr => OwI w x H n iv wr) (fun iv _ => n - (intOf iv).toNat)
  case atStart => exact ⟨0, 0, _, _, _, _, Nat.zero_le _, by omega, rfl, by omega, C3.out, fun _ _ => Nat.le_refl _⟩
  case round =>
    obtain ⟨i, k, s, rA, rc, X, hi, hi2, rfl, hk, hs, hgl⟩ := hrel
    clear C3
    have hbs := hs.c.bel.size
    rcases Nat.lt_or_ge i n with hin | hin
    · obtain ⟨bb, off, rfl, hbb, hcell⟩ := epk_at (HAG.out.below hs.c.bel) hin
      have q0 := hcell 0 (by omega)
      have q1 := hcell 1 (by omega)
      have q2 := hcell 2 (by omega)
      have hpok := okEpks_at HOK.out i
      generalize l0.getD i noEpk = p at q0 q1 q2 hpok
      obtain ⟨who, op, thing⟩ := p
      replace q0 : wr.cell? ⟨bb, off + i * 3, none⟩ = some (.int .i64 who) := q0
      replace q1 : wr.cell? ⟨bb, off + i * 3 + 1, none⟩ = some (.int .u8 (op : Int)) := q1
      replace q2 : wr.cell? ⟨bb, off + i * 3 + 2, none⟩ = some (.int .i64 thing) := q2
      have j0 : (0 : Int) ≤ (i : Int) := by omega
      have j1 : (i : Int) < (n : Int) := by omega
      have hbb2 : bb < wr.heap.size := by omega
      have hop1 : op ≤ 255 := hpok.op1
      clear hcell hpok
      have S1 : Hid (OwS w (wr.alloc (.cells #[.int .i64 who, .int .u8 (op : Int), .int .i64 thing] 32)) x H k s rA rc X) := Lib.hid (hs.below ((Below.refl _ _).alloc (Nat.le_refl _) _))
      clear hs
      rcases Nat.lt_or_ge i 200 with h3 | h3
      · have h3' : ¬ (200 : Int) ≤ (i : Int) := by omega
        have hwe := who3e_eq who
        have hql := who3e_lt who
        generalize (who % 18446744073709551616 % 3).toNat = q at hwe hql
        have hqw : IntKind.i64.wrap (q : Int) = (q : Int) := IntWalk.i64_in _ (by omega)
        have jq0 : (0 : Int) ≤ (q : Int) := by omega
        have jq4 : (q : Int) < 3 := by omega
        obtain ⟨o, ho1, ho5, hoe⟩ := eop5_eq op
        have hgq := hgl q hql
        by_cases hck : checkE (s.wk q) o = 0
        · have HR := Lib.hid (erunC S1.out.c (by omega) q hql o (i : Int) ho1 ho5 hck)
          have HGL := Lib.hid hgl
          clear hgl hck
          go_wp2_with fail
          with_reducible refine HR.out.mono ?_
          rintro e w4 ⟨Ax, cx, ⟨td, te, tn, th⟩, s', k', rfl, c4, hk4, fin, o4, f4⟩
          have c4 : EpC w w4 x 3 (thX Ax ++ X) k' s' := c4
          have o4 : OwnC w4 _ TI 1 Ax th.length cx (thI th) := o4
          obtain rfl : td = true := fin.d
          have kr5 := BlkL.new w4 [.bool true, .int .i64 (te : Int), .int .i64 tn, .slice Ax th.length cx] 37
          have hb5 := (Below.refl w4.heap.size w4).alloc (Nat.le_refl _) (.cells #[.bool true, .int .i64 (te : Int), .int .i64 tn, .slice Ax th.length cx] 37)
          have c5 := c4.newX (.cells #[.bool true, .int .i64 (te : Int), .int .i64 tn, .slice Ax th.length cx] 37)
          have h5 := (f4.blkF S1.out.h S1.out.hX).off (Off.of_below (S := []) hb5) (by simp)
          have r5 := fun j (hj : j < 3) => ((S1.out.r j hj).frx f4 (S1.out.rX j hj)).below hb5
          have t5 := ((argI_of o4.arg).below hb5).more hb5.size
          have hnx5 : ∀ j, j < 3 → (s'.wk j).nx = .none := fun j hj => by
            by_cases e : j = q
            · subst e; exact fin.nx
            · rw [fin.wk j e]; exact S1.out.nx j hj
          have hwk := fin.wk
          have f4s := Lib.hid f4.size
          have HR4 := Lib.hid (fun y (hy : y ∈ thX (rA q)) => ((S1.out.r q hql).frx f4 (S1.out.rX q hql)).lt y hy)
          clear c4 o4 f4 HR
          by_cases ho3 : o = 3
          · subst ho3
            obtain ⟨a1, a2⟩ := fin.o3 rfl
            obtain rfl : th = [] := congrArg EqV.th a1
            obtain ⟨L, hL⟩ : ∃ L, (s.wk q).gs.map (·.1) = L := ⟨_, rfl⟩
            have hLl : (s.wk q).gs.length = L.length := by rw [← hL]; simp
            have hdr : (s'.wk q).gs.map (·.1) = L ++ [(i : Int)] := by rw [a2, List.map_append, hL]; rfl
            have hHX := S1.out.hX
            have hp4 := h5.cell q hql
            have lh4 : H < w4.heap.size := Nat.lt_of_lt_of_le (S1.out.h.lt) (by have := f4s.out; exact this)
            have u4 : w4.cell? ⟨H, q, none⟩ = some (.slice (rA q) L.length (rc q)) := by
              have := (World.cell?_alloc_lt w4 (.cells #[.bool true, .int .i64 (te : Int), .int .i64 tn, .slice Ax 0 cx] 37) ⟨H, q, none⟩ lh4).symm.trans hp4
              rw [hLl] at this
              exact this
            have hb6 := (Below.refl (w4.alloc (.cells #[.bool true, .int .i64 (te : Int), .int .i64 tn, .slice Ax 0 cx] 37)).heap.size (w4.alloc (.cells #[.bool true, .int .i64 (te : Int), .int .i64 tn, .slice Ax 0 cx] 37))).alloc (Nat.le_refl _) (.cells #[.int .i64 (i : Int)] 3)
            have hz6 : (w4.alloc (.cells #[.bool true, .int .i64 (te : Int), .int .i64 tn, .slice Ax 0 cx] 37)).heap.size = w4.heap.size + 1 := by simp
            have kp6 := BlkL.new (w4.alloc (.cells #[.bool true, .int .i64 (te : Int), .int .i64 tn, .slice Ax 0 cx] 37)) [.int .i64 (i : Int)] 3
            rw [hz6] at kp6
            have r6 := fun j (hj : j < 3) => (r5 j hj).below hb6
            have rq6 := r6 q hql
            rw [hL, hLl] at rq6
            have C6 := Lib.hid (c5.below hb6)
            have H6 := Lib.hid (h5.off (Off.of_below (S := []) hb6) (by simp))
            have R6 := Lib.hid r6
            have RQ6 := Lib.hid rq6
            have KP6 := Lib.hid kp6
            have KR6 := Lib.hid (kr5.below hb6)
            have T6 := Lib.hid t5
            have FIN := Lib.hid fin
            have HWK := Lib.hid hwk
            have HNX := Lib.hid hnx5
            have HDR := Lib.hid hdr
            have HLL := Lib.hid (And.intro hL hLl)
            have R5 := Lib.hid r5
            have hw6 : w.heap.size ≤ ((w4.alloc (.cells #[.bool true, .int .i64 (te : Int), .int .i64 tn, .slice Ax 0 cx] 37)).alloc (.cells #[.int .i64 (i : Int)] 3)).heap.size := C6.out.bel.size
            have hLb : L.length + 1 ≤ 1000000 := by omega
            clear c5 h5 r5 t5 kr5 hb5 hnx5 hwk fin hL hLl a1 a2 hp4 hb6 kp6 r6 rq6 hdr hgq
            try rw [show ((3 : Nat) : Int) = 3 from rfl]
            go_wp2_with (refine wpList_append_o rfl (.tmp 77) (.tmp 79) rfl rfl RQ6.out (w4.heap.size + 1) 1 (i : Int) rfl KP6.out hLb hw6 ?_)
            intro A' c' wA hoA hfA hAA
            have hHn : H ∉ thX (rA q) := S1.out.hr q hql
            have lA : H < wA.heap.size := Nat.lt_of_lt_of_le (by simp; omega) hfA.size
            have uA := (hfA.cell (p := ⟨H, q, none⟩) (by simp; omega) hHn).trans (H6.out.cell q hql)
            have vA := (hfA.frozen (p := ⟨H, q, none⟩) (by simp; omega) hHn).trans (H6.out.froz q hql)
            have hp := (Off.refl [H] wA).setCell (p := ⟨H, q, none⟩) (by simp) (.slice A' (L.length + 1) c')
            have hsz := hfA.size
            have hz5 : ((w4.alloc (.cells #[.bool true, .int .i64 (te : Int), .int .i64 tn, .slice Ax 0 cx] 37)).alloc (.cells #[.int .i64 (i : Int)] 3)).heap.size = w4.heap.size + 2 := by simp
            have hz4 : (w4.alloc (.cells #[.bool true, .int .i64 (te : Int), .int .i64 tn, .slice Ax 0 cx] 37)).heap.size = w4.heap.size + 1 := by simp
            have hAH : ∀ y ∈ thX A', y ≠ H := fun y hy e => by
              rcases hAA y hy with h1 | h1
              · rw [e] at h1; exact hHn h1
              · have := h1.1; omega
            have MS : Hid (MidS w (wA.setCell ⟨H, q, none⟩ (.slice A' (L.length + 1) c')) x H k' s' (updF rA q A') (updF rc q c') (thX A' ++ X) q (L ++ [(i : Int)]) Ax cx [] w4.heap.size te tn) := by
              refine Lib.hid ⟨?_, ?_, ?_, fun j hj e => ?_, by simp [hHX], fun j hj y hy => ?_, fun a b ha hb hab y hy hm => ?_, fun j hj hm => ?_, HNX.out, S1.out.ge, ⟨rfl, T6.out.le, T6.out.cap, T6.out.none_, fun h => absurd h (by simp)⟩, ?_, rfl, HDR.out⟩
              · refine ((C6.out.weak (X' := X) (fun y hy => by simp [hy])).reOff (X' := thX A' ++ X) hfA (fun y hy => ⟨S1.out.rX q hql y hy, (RQ6.out.lt y hy).1⟩) (fun y hy => ?_)).putX hp (fun y hy => ?_)
                · rcases List.mem_append.1 hy with e | e
                  · rcases hAA y e with h1 | h1
                    · exact .inl (S1.out.rX q hql y h1)
                    · exact .inr ⟨by omega, h1.2⟩
                  · exact .inl e
                · simp only [List.mem_cons, List.not_mem_nil, or_false] at hy; subst hy; exact ⟨by simp [hHX], S1.out.ge⟩
              · refine ((H6.out.off hfA hHn).set q _ hql).congrF (fun j hj => ?_)
                by_cases e : j = q
                · subst e; rw [updF_same, updF_same, updF_same, if_pos rfl]; simp
                · rw [updF_other _ _ _ _ e, updF_other _ _ _ _ e, updF_other _ _ _ _ e, if_neg e, HWK.out j e]
              · rw [updF_same, updF_same, List.length_append]
                exact hoA.off hp (fun y hy hm => hAH y hy (by simpa using hm))
              · rw [updF_other _ _ _ _ e, updF_other _ _ _ _ e, HWK.out j e]
                exact ((R6.out j hj).off hfA (fun y hy => S1.out.dis j q hj hql e y hy)).off hp (fun y hy hm => S1.out.hr j hj (by simp only [List.mem_cons, List.not_mem_nil, or_false] at hm; rwa [hm] at hy))
              · by_cases e : j = q
                · subst e; rw [updF_same] at hy; simp [hy]
                · rw [updF_other _ _ _ _ e] at hy; simp [S1.out.rX j hj y hy]
              · by_cases ea : a = q
                · subst ea
                  rw [updF_same] at hy
                  rw [updF_other _ _ _ _ (Ne.symm hab)] at hm
                  rcases hAA y hy with h1 | h1
                  · exact S1.out.dis a b ha hb hab y h1 hm
                  · have := ((R6.out b hb).lt y hm).2; omega
                · rw [updF_other _ _ _ _ ea] at hy
                  by_cases eb : b = q
                  · subst eb
                    rw [updF_same] at hm
                    rcases hAA y hm with h1 | h1
                    · exact S1.out.dis a b ha hb hab y hy h1
                    · have := ((R6.out a ha).lt y hy).2; omega
                  · rw [updF_other _ _ _ _ eb] at hm
                    exact S1.out.dis a b ha hb hab y hy hm
              · by_cases e : j = q
                · subst e; rw [updF_same] at hm; exact hAH _ hm rfl
                · rw [updF_other _ _ _ _ e] at hm; exact S1.out.hr j hj hm
              · refine (KR6.out.off hfA (fun hm => ?_)).off hp (by simp; omega)
                have := (HR4.out _ hm)
                omega
            have HGN := Lib.hid (show ∀ j, j < 3 → (s'.wk j).gs.length ≤ i + 1 from fun j hj => by
              by_cases e : j = q
              · subst e
                have h1 := congrArg List.length HDR.out
                have h2 := HGL.out j hj
                rw [HLL.out.2] at h2
                simp at h1
                omega
              · rw [HWK.out j e]; have := HGL.out j hj; omega)
            obtain ⟨rA2, hrA2⟩ : ∃ f, f = updF rA q A' := ⟨_, rfl⟩
            obtain ⟨rc2, hrc2⟩ : ∃ f, f = updF rc q c' := ⟨_, rfl⟩
            obtain ⟨L2, hL2⟩ : ∃ l, l = L ++ [(i : Int)] := ⟨_, rfl⟩
            obtain ⟨X2, hX2⟩ : ∃ l, l = thX A' ++ X := ⟨_, rfl⟩
            rw [← hrA2, ← hrc2, ← hL2, ← hX2] at MS
            clear hoA hfA hAA hp hAH C6 H6 R6 RQ6 KP6 KR6 T6 FIN HWK HNX HDR HLL S1 hrA2 hrc2 hL2 hX2 hsz
            go_wp2_with fail
            generalize hW6 : wA.setCell ⟨H, q, none⟩ (.slice A' (L.length + 1) c') = w6 at *
            clear hW6
            have hnl : 0 ≤ L2.length := MS.out.le
            have hlc := MS.out.rq.le
            have v3 : w6.cell? ⟨w4.heap.size, 3, none⟩ = some (.slice Ax 0 cx) := MS.out.kr.cell 3 _ rfl
            have lr := MS.out.kr.lt
            have hq6 := MS.out.h.cell q hql
            rw [if_pos rfl] at hq6
            have lh := MS.out.h.lt
            have HSI := Lib.hid (fun t => (show Calls Try.prog 28 #[.slice Ax 0 cx, .slice (rA2 q) 0 (rc2 q)] (w6.drewN t) _ from MS.out.same t))
            have g1 : ¬ (L2.length : Int) < 0 := by omega
            have g2 : 0 ≤ (rc2 q : Int) := by omega
            have g3 : (0 : Int) ≤ 0 := by omega
            have g4 : 0 ≤ (L2.length : Int) := by omega
            go_quiet (first | (go_at_call 28; with_reducible exact HSI.out _))
            rename_i nq
            have MQ := Lib.hid (MS.out.below (below_drewN (Below.refl _ _) nq))
            generalize hW7 : World.drewN w6 nq = w7 at *
            clear hW7 hq6 v3 lr lh HSI MS
            have v3 : w7.cell? ⟨w4.heap.size, 3, none⟩ = some (.slice Ax 0 cx) := MQ.out.kr.cell 3 _ rfl
            have lr := MQ.out.kr.lt
            have hq7 := MQ.out.h.cell q hql
            rw [if_pos rfl] at hq7
            have hf7 := MQ.out.h.froz q hql
            have lh := MQ.out.h.lt
            have hs1 : ∀ w, (Instr.sliceAt 35 (.slice (rA2 q) L2.length (rc2 q)) (some (.int .i64 0)) none none).run Try.prog w = .ok (.slice (frO (rA2 q) (rc2 q) 0) L2.length (rc2 q)) w := fun w => run_from_int w (rA2 q) L2.length (rc2 q) 0 hnl
            have hs2 : ∀ w, (Instr.slice 35 (.slice (rA2 q) L2.length (rc2 q)) (some (.int .i64 0)) none none).run Try.prog w = .ok (.slice (frO (rA2 q) (rc2 q) 0) L2.length (rc2 q)) w := fun w => run_from_int2 w (rA2 q) L2.length (rc2 q) 0 hnl
            go_wp2_with fail
            go_region
            clear hs1 hs2 v3 lr hq7 hf7 lh
            have S8 : Hid (OwS w (w7.setCell ⟨H, q, none⟩ (.slice (frO (rA2 q) (rc2 q) 0) L2.length (rc2 q))).drew x H k' s' (updF rA2 q (frO (rA2 q) (rc2 q) 0)) (updF rc2 q (rc2 q)) X2) := Lib.hid (MQ.out.cut hql L2.length (rc2 q) rfl rfl)
            generalize hW8 : (w7.setCell ⟨H, q, none⟩ (.slice (frO (rA2 q) (rc2 q) 0) L2.length (rc2 q))).drew = w8 at *
            clear hW8
            have e8 : (s'.wk q).gs.length = L2.length := by
              have := congrArg List.length MQ.out.dr
              simpa using this
            have hq8 := S8.out.h.cell q hql
            rw [updF_same, updF_same, e8] at hq8
            have lh8 := S8.out.h.lt
            have HH := Lib.hid (eheldL S8.out.c.drew q hql _ e8)
            have hr8 := S8.out.r q hql
            rw [updF_same, updF_same, e8] at hr8
            have HR8 := Lib.hid hr8
            clear MQ g1 g2 g3 g4 hnl hlc e8 hr8
            go_wp2_with fail
            go_region_held3 (fun w' => w'.cell? ⟨H, q, none⟩ = some (.slice (frO (rA2 q) (rc2 q) 0) L2.length (rc2 q))) (go_keep)
              (first
              | ((with_reducible refine (HH.out).mono ?_); rintro e w9 ⟨A9, c9, rfl, o9, b9⟩; have n9 := (b9.cell (p := ⟨H, q, none⟩) lh8).trans hq8; have HS9 := Lib.hid (same_row o9 ((HR8.out.below (Below.refl _ _).drew).below b9)); have HB9 := Lib.hid b9; clear o9 b9)
              | ((with_reducible refine (HS9.out).mono ?_); rintro e w10 ⟨rfl, t10, rfl⟩; have n10 : (w9.drewN t10).cell? ⟨H, q, none⟩ = _ := n9))
            have S9 := Lib.hid ((S8.out.below (Below.refl _ _).drew).below (HB9.out.trans (below_drewN (Below.refl _ _) t10)))
            clear n9
            go_wp2
            go_roundw
            case rel => exact ⟨i + 1, k', s', _, _, _, by omega, by omega, by go_num, by omega, S9.out, fun j hj => HGN.out j hj⟩
            case measure => simp [intOf]; omega
          · have ho3' : ¬ (o : Int) = 3 := by omega
            have hLt : th = ((s.wk q).gs.map (·.1)).take th.length ∧ (s'.wk q).gs.map (·.1) = ((s.wk q).gs.map (·.1)).drop th.length ∧ (o ≠ 5 → th.length = 0) := by
              by_cases h55 : o = 5
              · obtain ⟨a1, a2⟩ := fin.o5 h55
                have e1 : th = ((s.wk q).gs.take (oldN s.E (s.wk q).gs)).map (·.1) := congrArg EqV.th a1
                have e2 : th.length = oldN s.E (s.wk q).gs := by rw [e1, List.length_map, List.length_take]; have := oldN_le s.E (s.wk q).gs; omega
                refine ⟨by rw [e2, ← List.map_take]; exact e1, by rw [e2, ← List.map_drop, a2], fun h => absurd h55 h⟩
              · have e1 : th = [] := fin.th h55
                subst e1
                refine ⟨by simp, ?_, fun _ => rfl⟩
                rw [fin.gs ho3 h55]; simp
            obtain ⟨L, hL⟩ : ∃ L, (s.wk q).gs.map (·.1) = L := ⟨_, rfl⟩
            have hLl : (s.wk q).gs.length = L.length := by rw [← hL]; simp
            rw [hL] at hLt
            have MS : Hid (MidS w (w4.alloc (.cells #[.bool true, .int .i64 (te : Int), .int .i64 tn, .slice Ax th.length cx] 37)) x H k' s' rA rc X q L Ax cx th w4.heap.size te tn) := Lib.hid ⟨c5.weak (fun y hy => by simp [hy]), h5.congrF (fun j hj => by
                by_cases e : j = q
                · subst e; rw [if_pos rfl, hLl]
                · rw [if_neg e, hwk j e]), by have := r5 q hql; rw [hL, hLl] at this; exact this, fun j hj e => by rw [hwk j e]; exact r5 j hj, S1.out.hX, S1.out.rX, S1.out.dis, S1.out.hr, hnx5, S1.out.ge, t5, kr5, hLt.1, hLt.2.1⟩
            have hn5 := hLt.2.2
            have HGN := Lib.hid (show ∀ j, j < 3 → (s'.wk j).gs.length ≤ i + 1 from fun j hj => by
              by_cases e : j = q
              · subst e
                have h1 := congrArg List.length hLt.2.1
                have h2 := HGL.out j hj
                simp at h1
                omega
              · rw [hwk j e]; have := HGL.out j hj; omega)
            clear c5 h5 r5 t5 kr5 hb5 hnx5 hwk hLt fin hL hLl S1 hgq
            by_cases ho5' : o = 5
            · subst ho5'
              clear hn5 ho3 ho3'
              try rw [show ((5 : Nat) : Int) = 5 from rfl]
              go_wp2_with fail
              generalize hW6 : w4.alloc (.cells #[.bool true, .int .i64 (te : Int), .int .i64 tn, .slice Ax th.length cx] 37) = w6 at *
              clear hW6
              have hnl : th.length ≤ L.length := MS.out.le
              have hlc := MS.out.rq.le
              have v3 : w6.cell? ⟨w4.heap.size, 3, none⟩ = some (.slice Ax th.length cx) := MS.out.kr.cell 3 _ rfl
              have lr := MS.out.kr.lt
              have hq6 := MS.out.h.cell q hql
              rw [if_pos rfl] at hq6
              have lh := MS.out.h.lt
              have HSI := Lib.hid (fun t => (show Calls Try.prog 28 #[.slice Ax th.length cx, .slice (rA q) th.length (rc q)] (w6.drewN t) _ from MS.out.same t))
              have g1 : ¬ (L.length : Int) < (th.length : Int) := by omega
              have g2 : (th.length : Int) ≤ (rc q : Int) := by omega
              have g3 : (0 : Int) ≤ (th.length : Int) := by omega
              have g4 : (th.length : Int) ≤ (L.length : Int) := by omega
              go_quiet (first | (go_at_call 28; with_reducible exact HSI.out _))
              rename_i nq
              have MQ := Lib.hid (MS.out.below (below_drewN (Below.refl _ _) nq))
              generalize hW7 : World.drewN w6 nq = w7 at *
              clear hW7 hq6 v3 lr lh HSI MS
              have v3 : w7.cell? ⟨w4.heap.size, 3, none⟩ = some (.slice Ax th.length cx) := MQ.out.kr.cell 3 _ rfl
              have lr := MQ.out.kr.lt
              have hq7 := MQ.out.h.cell q hql
              rw [if_pos rfl] at hq7
              have hf7 := MQ.out.h.froz q hql
              have lh := MQ.out.h.lt
              have hs1 : ∀ w, (Instr.sliceAt 35 (.slice (rA q) L.length (rc q)) (some (.int .i64 (th.length : Int))) none none).run Try.prog w = .ok (.slice (frO (rA q) (rc q) th.length) (L.length - th.length) (rc q - th.length)) w := fun w => run_from_int w (rA q) L.length (rc q) th.length hnl
              have hs2 : ∀ w, (Instr.slice 35 (.slice (rA q) L.length (rc q)) (some (.int .i64 (th.length : Int))) none none).run Try.prog w = .ok (.slice (frO (rA q) (rc q) th.length) (L.length - th.length) (rc q - th.length)) w := fun w => run_from_int2 w (rA q) L.length (rc q) th.length hnl
              go_wp2_with fail
              go_region
              clear hs1 hs2 v3 lr hq7 hf7 lh
              have S8 : Hid (OwS w (w7.setCell ⟨H, q, none⟩ (.slice (frO (rA q) (rc q) th.length) (L.length - th.length) (rc q - th.length))).drew x H k' s' (updF rA q (frO (rA q) (rc q) th.length)) (updF rc q (rc q - th.length)) X) := Lib.hid (MQ.out.cut hql (L.length - th.length) (rc q - th.length) rfl rfl)
              generalize hW8 : (w7.setCell ⟨H, q, none⟩ (.slice (frO (rA q) (rc q) th.length) (L.length - th.length) (rc q - th.length))).drew = w8 at *
              clear hW8
              have e8 : (s'.wk q).gs.length = (L.length - th.length) := by
                have := congrArg List.length MQ.out.dr
                simpa using this
              have hq8 := S8.out.h.cell q hql
              rw [updF_same, updF_same, e8] at hq8
              have lh8 := S8.out.h.lt
              have HH := Lib.hid (eheldL S8.out.c.drew q hql _ e8)
              have hr8 := S8.out.r q hql
              rw [updF_same, updF_same, e8] at hr8
              have HR8 := Lib.hid hr8
              clear MQ g1 g2 g3 g4 hnl hlc e8 hr8
              go_wp2_with fail
              go_region_held3 (fun w' => w'.cell? ⟨H, q, none⟩ = some (.slice (frO (rA q) (rc q) th.length) (L.length - th.length) (rc q - th.length))) (go_keep)
                (first
                | ((with_reducible refine (HH.out).mono ?_); rintro e w9 ⟨A9, c9, rfl, o9, b9⟩; have n9 := (b9.cell (p := ⟨H, q, none⟩) lh8).trans hq8; have HS9 := Lib.hid (same_row o9 ((HR8.out.below (Below.refl _ _).drew).below b9)); have HB9 := Lib.hid b9; clear o9 b9)
                | ((with_reducible refine (HS9.out).mono ?_); rintro e w10 ⟨rfl, t10, rfl⟩; have n10 : (w9.drewN t10).cell? ⟨H, q, none⟩ = _ := n9))
              have S9 := Lib.hid ((S8.out.below (Below.refl _ _).drew).below (HB9.out.trans (below_drewN (Below.refl _ _) t10)))
              clear n9
              go_wp2
              go_roundw
              case rel => exact ⟨i + 1, k', s', _, _, _, by omega, by omega, by go_num, by omega, S9.out, fun j hj => HGN.out j hj⟩
              case measure => simp [intOf]; omega
            · have o5' : ¬ (o : Int) = 5 := by omega
              obtain rfl : th = [] := List.eq_nil_of_length_eq_zero (hn5 ho5')
              clear hn5
              go_wp2_with fail
              generalize hW6 : w4.alloc (.cells #[.bool true, .int .i64 (te : Int), .int .i64 tn, .slice Ax 0 cx] 37) = w6 at *
              clear hW6
              have hnl : 0 ≤ L.length := MS.out.le
              have hlc := MS.out.rq.le
              have v3 : w6.cell? ⟨w4.heap.size, 3, none⟩ = some (.slice Ax 0 cx) := MS.out.kr.cell 3 _ rfl
              have lr := MS.out.kr.lt
              have hq6 := MS.out.h.cell q hql
              rw [if_pos rfl] at hq6
              have lh := MS.out.h.lt
              have HSI := Lib.hid (fun t => (show Calls Try.prog 28 #[.slice Ax 0 cx, .slice (rA q) 0 (rc q)] (w6.drewN t) _ from MS.out.same t))
              have g1 : ¬ (L.length : Int) < 0 := by omega
              have g2 : 0 ≤ (rc q : Int) := by omega
              have g3 : (0 : Int) ≤ 0 := by omega
              have g4 : 0 ≤ (L.length : Int) := by omega
              go_quiet (first | (go_at_call 28; with_reducible exact HSI.out _))
              rename_i nq
              have MQ := Lib.hid (MS.out.below (below_drewN (Below.refl _ _) nq))
              generalize hW7 : World.drewN w6 nq = w7 at *
              clear hW7 hq6 v3 lr lh HSI MS
              have v3 : w7.cell? ⟨w4.heap.size, 3, none⟩ = some (.slice Ax 0 cx) := MQ.out.kr.cell 3 _ rfl
              have lr := MQ.out.kr.lt
              have hq7 := MQ.out.h.cell q hql
              rw [if_pos rfl] at hq7
              have hf7 := MQ.out.h.froz q hql
              have lh := MQ.out.h.lt
              have hs1 : ∀ w, (Instr.sliceAt 35 (.slice (rA q) L.length (rc q)) (some (.int .i64 0)) none none).run Try.prog w = .ok (.slice (frO (rA q) (rc q) 0) L.length (rc q)) w := fun w => run_from_int w (rA q) L.length (rc q) 0 hnl
              have hs2 : ∀ w, (Instr.slice 35 (.slice (rA q) L.length (rc q)) (some (.int .i64 0)) none none).run Try.prog w = .ok (.slice (frO (rA q) (rc q) 0) L.length (rc q)) w := fun w => run_from_int2 w (rA q) L.length (rc q) 0 hnl
              go_wp2_with fail
              go_region
              clear hs1 hs2 v3 lr hq7 hf7 lh
              have S8 : Hid (OwS w (w7.setCell ⟨H, q, none⟩ (.slice (frO (rA q) (rc q) 0) L.length (rc q))).drew x H k' s' (updF rA q (frO (rA q) (rc q) 0)) (updF rc q (rc q)) X) := Lib.hid (MQ.out.cut hql L.length (rc q) rfl rfl)
              generalize hW8 : (w7.setCell ⟨H, q, none⟩ (.slice (frO (rA q) (rc q) 0) L.length (rc q))).drew = w8 at *
              clear hW8
              have e8 : (s'.wk q).gs.length = L.length := by
                have := congrArg List.length MQ.out.dr
                simpa using this
              have hq8 := S8.out.h.cell q hql
              rw [updF_same, updF_same, e8] at hq8
              have lh8 := S8.out.h.lt
              have HH := Lib.hid (eheldL S8.out.c.drew q hql _ e8)
              have hr8 := S8.out.r q hql
              rw [updF_same, updF_same, e8] at hr8
              have HR8 := Lib.hid hr8
              clear MQ g1 g2 g3 g4 hnl hlc e8 hr8
              go_wp2_with fail
              go_region_held3 (fun w' => w'.cell? ⟨H, q, none⟩ = some (.slice (frO (rA q) (rc q) 0) L.length (rc q))) (go_keep)
                (first
                | ((with_reducible refine (HH.out).mono ?_); rintro e w9 ⟨A9, c9, rfl, o9, b9⟩; have n9 := (b9.cell (p := ⟨H, q, none⟩) lh8).trans hq8; have HS9 := Lib.hid (same_row o9 ((HR8.out.below (Below.refl _ _).drew).below b9)); have HB9 := Lib.hid b9; clear o9 b9)
                | ((with_reducible refine (HS9.out).mono ?_); rintro e w10 ⟨rfl, t10, rfl⟩; have n10 : (w9.drewN t10).cell? ⟨H, q, none⟩ = _ := n9))
              have S9 := Lib.hid ((S8.out.below (Below.refl _ _).drew).below (HB9.out.trans (below_drewN (Below.refl _ _) t10)))
              clear n9
              go_wp2
              go_roundw
              case rel => exact ⟨i + 1, k', s', _, _, _, by omega, by omega, by go_num, by omega, S9.out, fun j hj => HGN.out j hj⟩
              case measure => simp [intOf]; omega
        · have hcn : (o = 1 ∧ (s.wk q).pin ≠ 0) ∨ (o = 2 ∧ (s.wk q).pin = 0) := by
            have := S1.out.nx q hql
            by_cases e1 : o = 1
            · by_cases e2 : (s.wk q).pin = 0
              · simp [checkE, this, isEN, e1, e2] at hck
              · exact .inl ⟨e1, e2⟩
            · by_cases e2 : o = 2
              · by_cases e3 : (s.wk q).pin = 0
                · exact .inr ⟨e2, e3⟩
                · simp [checkE, this, isEN, e2, e3] at hck
              · exfalso; simp [checkE, this, isEN, e1, e2] at hck; omega
          have HR := Lib.hid (erunN S1.out.c q hql o (i : Int) ho1 ho5 hck)
          have HGL := Lib.hid hgl
          clear hgl hck
          go_wp2_with fail
          with_reducible refine HR.out.mono ?_
          rintro e w4 ⟨rfl, c4, f4⟩
          have hs4 : OwS w w4 x H k s rA rc X := ⟨c4, f4.blkF S1.out.h S1.out.hX, fun j hj => (S1.out.r j hj).frx f4 (S1.out.rX j hj), S1.out.hX, S1.out.rX, S1.out.dis, S1.out.hr, S1.out.nx, S1.out.ge⟩
          have hs5 := hs4.below ((Below.refl w4.heap.size w4).alloc (Nat.le_refl _) (.cells #[.bool false, .int .i64 0, .int .i64 0, .slice none 0 0] 37))
          rcases hcn with ⟨rfl, hp⟩ | ⟨rfl, hp⟩
          · have HP := Lib.hid (epinC hs5.c q hql true (by simpa using hp))
            have HS5 := Lib.hid hs5
            clear c4 f4 hs4 hs5 HR
            try rw [show ((1 : Nat) : Int) = 1 from rfl]
            go_wp2_with fail
            with_reducible refine HP.out.mono ?_
            rintro e w5 ⟨rfl, hw⟩
            subst hw
            go_wp2
            go_roundw
            case rel => exact ⟨i + 1, k, s, rA, rc, X, by omega, by omega, by go_num, by omega, HS5.out, fun j hj => by have := HGL.out j hj; omega⟩
            case measure => simp [intOf]; omega
          · have HP := Lib.hid (epinC hs5.c q hql false (by simp [hp]))
            have HS5 := Lib.hid hs5
            clear c4 f4 hs4 hs5 HR
            try rw [show ((2 : Nat) : Int) = 2 from rfl]
            go_wp2_with fail
            with_reducible refine HP.out.mono ?_
            rintro e w5 ⟨rfl, hw⟩
            subst hw
            go_wp2
            go_roundw
            case rel => exact ⟨i + 1, k, s, rA, rc, X, by omega, by omega, by go_num, by omega, HS5.out, fun j hj => by have := HGL.out j hj; omega⟩
            case measure => simp [intOf]; omega
      · have h3' : (200 : Int) ≤ (i : Int) := by omega
        clear hgl
        go_wp2
        go_ret
        exact ⟨rfl, S1.out.c.bel⟩
    · obtain rfl : i = n := by omega
      have j1 : ¬ (i : Int) < (i : Int) := by omega
      have C1 := Lib.hid hs
      clear hs hgl
      go_wp2
      go_ret
      exact ⟨rfl, C1.out.c.bel⟩
end Go.Proofs.Ytpjgpiiibgogeaa
