/- Words for lists that stay while others grow; an append of one struct and of one number that tells which blocks stay. -/
import Derived.Test.YtpeijhlheencnaaPermC
import Derived.Test.YtpeijhlheencnaaRow
import Derived.Maps.AppendAt
namespace Go.Proofs.Ytpeijhlheencnaa
open Go.RowKit
set_option maxRecDepth 100000
set_option linter.unusedVariables false

/-- The block of a slice that owns its row. -/
def ob (A : Option Addr) : Option Nat := A.map (·.block)
def Ap (A : Option Addr) (n : Nat) (o : Option Nat) : Prop := 0 < n → ∀ a, A = some a → o ≠ some a.block
/-- Blocks but one stay. -/
def Stay (w w' : World) (o : Option Nat) : Prop := w.heap.size ≤ w'.heap.size ∧ ∀ b, b < w.heap.size → o ≠ some b → w'.heap[b]? = w.heap[b]?
def Moved (w : World) (o o' : Option Nat) : Prop := o' = o ∨ o' = some w.heap.size
def Inn (w : World) (o : Option Nat) : Prop := ∀ b, o = some b → b < w.heap.size
structure Lst (z : Nat) (w : World) (o1 o2 : Option Nat) (A : Option Addr) (n c : Nat) (xs : List Int) : Prop where
  arg : ArgI w w.heap.size A n c xs
  a1 : Ap A n o1
  a2 : Ap A n o2
  a3 : Ap A n (some z)

section
variable {w w' : World} {z : Nat} {o o1 o2 o' : Option Nat} {A : Option Addr} {n c : Nat} {xs : List Int}
theorem ArgI.stay {B : Nat} (h : ArgI w B A n c xs) (hB : B ≤ w.heap.size) (hs : Stay w w' o) (ha : Ap A n o) : ArgI w' B A n c xs :=
  ⟨h.len, h.le, h.cap, h.none_, fun hn => by
    obtain ⟨b, off, e, hb, hc⟩ := h.at_ hn
    refine ⟨b, off, e, hb, fun k hk => ?_⟩
    rw [← hc k hk]
    exact World.cell?_of_block (w := w) (hs.2 b (by omega) (ha hn _ e))⟩
theorem Lst.below (h : Lst z w o1 o2 A n c xs) (hb : Below w.heap.size w w') : Lst z w' o1 o2 A n c xs := ⟨(h.arg.below hb).more hb.size, h.a1, h.a2, h.a3⟩
theorem Lst.drewN (h : Lst z w o1 o2 A n c xs) (t : Nat) : Lst z (w.drewN t) o1 o2 A n c xs := ⟨h.arg.drewN t, h.a1, h.a2, h.a3⟩
theorem Lst.nil (z : Nat) (w : World) (o1 o2 : Option Nat) : Lst z w o1 o2 none 0 0 [] := ⟨ArgI.nil _ _, fun h => absurd h (by omega), fun h => absurd h (by omega), fun h => absurd h (by omega)⟩
theorem Ap.new {B : Nat} (h : OwnI w B A n c xs) (ho : ∀ b, o = some b → b < B) : Ap A n o := by
  intro hn a e he
  rcases h.2 with ⟨h1, h2⟩ | ⟨g, cap, cur, h1, hB, _⟩
  · omega
  · simp only [Value.slice.injEq, e, Option.some.injEq] at h1
    have := ho _ he
    rw [h1.1] at this
    simp at this
    omega
theorem Lst.new {B : Nat} (h : OwnI w B A n c xs) (h1 : ∀ b, o1 = some b → b < B) (h2 : ∀ b, o2 = some b → b < B) (h3 : z < B) : Lst z w o1 o2 A n c xs := ⟨h.arg, Ap.new h h1, Ap.new h h2, Ap.new h fun b hb => by injection hb with hb; omega⟩
theorem Ap.moved (h : ArgI w w.heap.size A n c xs) (ha : Ap A n o) (hm : Moved w o o') : Ap A n o' := by
  intro hn a e
  rcases hm with rfl | rfl
  · exact ha hn a e
  · obtain ⟨b, off, e2, hb, _⟩ := h.at_ hn
    rw [e] at e2
    injection e2 with e2
    subst e2
    intro h; injection h with h; simp at h; omega
theorem Lst.grown1 (h : Lst z w o1 o2 A n c xs) (hs : Stay w w' o1) (hm : Moved w o1 o') : Lst z w' o' o2 A n c xs := ⟨(h.arg.stay (Nat.le_refl _) hs h.a1).more hs.1, h.a1.moved h.arg hm, h.a2, h.a3⟩
theorem Lst.grown2 (h : Lst z w o1 o2 A n c xs) (hs : Stay w w' o2) (hm : Moved w o2 o') : Lst z w' o1 o' A n c xs := ⟨(h.arg.stay (Nat.le_refl _) hs h.a2).more hs.1, h.a1, h.a2.moved h.arg hm, h.a3⟩
variable {T : TypeId} {B k : Nat} {cs : List Value}
theorem OwnC.inn (h : OwnC w B T k A n c cs) : Inn w (ob A) := by
  intro b hb
  rcases h.2 with ⟨h1, h2⟩ | ⟨g, cap, cur, h1, h2, h3, _⟩
  · simp only [Value.slice.injEq] at h1
    rw [h1.1] at hb; cases hb
  · simp only [Value.slice.injEq] at h1
    rw [h1.1] at hb
    injection hb with hb
    subst hb
    rcases Nat.lt_or_ge g w.heap.size with h | h
    · exact h
    · rw [Array.getElem?_eq_none h] at h3; cases h3
theorem OwnC.stay (h : OwnC w B T k A n c cs) (hs : Stay w w' o) (ho : ∀ b, ob A = some b → o ≠ some b) : OwnC w' B T k A n c cs := by
  have hi := h.inn
  rcases h with ⟨h0, h | ⟨g, cap, cur, h1, h2, h3, h4⟩⟩
  · exact ⟨h0, .inl h⟩
  · have e : ob A = some g := by
      simp only [Value.slice.injEq] at h1
      rw [h1.1]; rfl
    exact ⟨h0, .inr ⟨g, cap, cur, h1, h2, (hs.2 g (hi g e) (ho g e)).trans h3, h4⟩⟩
theorem ArgI.put {B : Nat} (h : ArgI w B A n c xs) (ha : Ap A n (some z)) (j : Nat) (v : Value) : ArgI (w.setCell ⟨z, j, none⟩ v) B A n c xs :=
  ⟨h.len, h.le, h.cap, h.none_, fun hn => by
    obtain ⟨b, off, e, hb, hc⟩ := h.at_ hn
    refine ⟨b, off, e, hb, fun k hk => ?_⟩
    have hne : b ≠ z := fun e2 => ha hn _ e (by rw [e2])
    rw [← hc k hk]
    exact World.cell?_of_block (w := w) (Below.heap_setCell w ⟨z, j, none⟩ v b hne)⟩
theorem Lst.put (h : Lst z w o1 o2 A n c xs) (j : Nat) (v : Value) : Lst z (w.setCell ⟨z, j, none⟩ v) o1 o2 A n c xs :=
  ⟨(h.arg.put h.a3 j v).more (by simp), h.a1, h.a2, h.a3⟩
theorem Inn.moved (h : Inn w o) (hs : w.heap.size ≤ w'.heap.size) : Inn w' o := fun b hb => Nat.lt_of_lt_of_le (h b hb) hs
end
/-- A row of semaphores. -/
structure SRow where
  A : Option Addr
  n : Nat
  c : Nat
  xs : List Int
def RC (p : Int) (rows : List SRow) : List Value := rows.flatMap fun r => [.int .i64 p, .slice r.A r.n r.c]
def CC (rows : List SRow) : List Value := rows.map fun r => .int .i64 (r.n : Int)
theorem RC_snoc (p : Int) (rows : List SRow) (r : SRow) : RC p (rows ++ [r]) = RC p rows ++ [.int .i64 p, .slice r.A r.n r.c] := by unfold RC; rw [List.flatMap_append]; simp
theorem CC_snoc (rows : List SRow) (r : SRow) : CC (rows ++ [r]) = CC rows ++ [.int .i64 (r.n : Int)] := by simp [CC]
theorem RC_at (p : Int) (rows : List SRow) (i : Nat) (h : i < rows.length) : (RC p rows)[i * 2]? = some (.int .i64 p) ∧ (RC p rows)[i * 2 + 1]? = some (.slice rows[i].A rows[i].n rows[i].c) := by
  induction rows generalizing i with
  | nil => simp at h
  | cons a l ih =>
    cases i with
    | zero => exact ⟨rfl, rfl⟩
    | succ i =>
      have := ih i (by simpa using h)
      have e1 : (i + 1) * 2 = i * 2 + 1 + 1 := by omega
      have e2 : (i + 1) * 2 + 1 = i * 2 + 1 + 1 + 1 := by omega
      rw [e2, e1]
      simpa [RC] using this
theorem CC_at (rows : List SRow) (i : Nat) (h : i < rows.length) : (CC rows)[i]? = some (.int .i64 (rows[i].n : Int)) := by simp [CC, h]
def RowsOk (z : Nat) (w : World) (o1 o2 : Option Nat) (p : Int) (rows : List SRow) : Prop := ∀ r ∈ rows, Lst z w o1 o2 r.A r.n r.c r.xs ∧ semB p r.xs = true
section
variable {z : Nat} {w w' : World} {o1 o2 o' : Option Nat} {p : Int} {rows : List SRow}
theorem RowsOk.below (h : RowsOk z w o1 o2 p rows) (hb : Below w.heap.size w w') : RowsOk z w' o1 o2 p rows := fun r hr => ⟨(h r hr).1.below hb, (h r hr).2⟩
theorem RowsOk.put (h : RowsOk z w o1 o2 p rows) (j : Nat) (v : Value) : RowsOk z (w.setCell ⟨z, j, none⟩ v) o1 o2 p rows := fun r hr => ⟨(h r hr).1.put j v, (h r hr).2⟩
theorem RowsOk.drewN (h : RowsOk z w o1 o2 p rows) (t : Nat) : RowsOk z (w.drewN t) o1 o2 p rows := fun r hr => ⟨(h r hr).1.drewN t, (h r hr).2⟩
theorem RowsOk.grown1 (h : RowsOk z w o1 o2 p rows) (hs : Stay w w' o1) (hm : Moved w o1 o') : RowsOk z w' o' o2 p rows := fun r hr => ⟨(h r hr).1.grown1 hs hm, (h r hr).2⟩
theorem RowsOk.grown2 (h : RowsOk z w o1 o2 p rows) (hs : Stay w w' o2) (hm : Moved w o2 o') : RowsOk z w' o1 o' p rows := fun r hr => ⟨(h r hr).1.grown2 hs hm, (h r hr).2⟩
theorem RowsOk.snoc (h : RowsOk z w o1 o2 p rows) {r : SRow} (h1 : Lst z w o1 o2 r.A r.n r.c r.xs) (h2 : semB p r.xs = true) : RowsOk z w o1 o2 p (rows ++ [r]) := by
  intro a ha
  rcases List.mem_append.1 ha with h3 | h3
  · exact h a h3
  · simp only [List.mem_singleton] at h3
    subst h3; exact ⟨h1, h2⟩
end

/-- An append of one element (k cells that lie in a block of their own). -/
theorem wpList_append_one {w : World} {ops : Array Oper} {rest : List Oper} {o : Oper} {a : Act} {Q : Exit → Act → World → Prop} (hgd : o.guard = none) (s x : Operand) (t : TypeId)
    (ho : o.op = .call { callee := .builtin .append, args := #[s, x], argTypes := #[t, t] })
    (base : Nat) (e : TypeId) (z : Value) (k bytes : Nat) (ht : Try.prog.underlying t = some (.slice e)) (hinfo : (Try.prog.info? e).map (fun i => (i.zero, i.size, i.bytes)) = some (some z, k, bytes)) (hz : z.cells.size = k) (hk : 0 < k)
    (A : Option Addr) (n c : Nat) (cs : List Value) (hs : a.eval s = .slice A n c) (hown : OwnC w base e k A n c cs)
    (g m : Nat) (vs : List Value) (hx : a.eval x = .slice (some ⟨g, 0, none⟩) 1 m) (hvs : vs.length = k) (hcell : ∀ j u, vs[j]? = some u → w.cell? ⟨g, j, none⟩ = some u) (h1 : ∀ u ∈ vs, u.oneCell' = true)
    (hn : n + 1 ≤ maxLen) (hbytes : (n + 1) * bytes ≤ 140737488355328) (hbase : base ≤ w.heap.size)
    (h : ∀ A' c' w', OwnC w' base e k A' (n + 1) c' (cs ++ vs) → Below base w w' → Stay w w' (ob A) → Moved w (ob A) (ob A') → wpList Try.prog ops Q rest (a.put o.dst (.slice A' (n + 1) c')) w') : wpList Try.prog ops Q (o :: rest) a w := by
  obtain ⟨i0, hi, hz0, hz1, hz2⟩ := info_parts hinfo
  have hlt := fun k hk => (World.ownsRow.lt hown k hk).1
  refine wpList_append_own_at w hgd s x t ho base e i0 z k bytes ht hi hz0 hz1 hz2 hz hk _ n _ hs hown ⟨g, 0, none⟩ 1 m vs hx (by omega) (fun j u hj => ?_) h1 hn hbytes hbase ?_
  · have e2 : (⟨g, 0, none⟩ : Addr).add j = ⟨g, j, none⟩ := by unfold Addr.add; split <;> simp_all
    rw [e2]; exact hcell j u hj
  · intro v' w' h2 h3 h4 h5
    have hb' : Below base w w' := (Below.refl _ _).grown h3 hbase hlt
    have hob : (Value.slice A n c).ownBlock = ob A := by
      rcases hown.2 with ⟨h1, _⟩ | ⟨g', cap', cur', h1, _⟩
      · simp only [Value.slice.injEq] at h1
        rw [h1.1]; rfl
      · simp only [Value.slice.injEq] at h1
        rw [h1.1]; rfl
    rcases h2.2 with ⟨e, e2⟩ | ⟨g, cap, cur, e, _⟩
    · omega
    · subst e
      rw [hob] at h3 h5
      refine h _ _ _ h2 hb' ⟨h3.size, fun b hb hne => h3.block b hb fun e => hne e.symm⟩ ?_
      exact h5
end Go.Proofs.Ytpeijhlheencnaa
