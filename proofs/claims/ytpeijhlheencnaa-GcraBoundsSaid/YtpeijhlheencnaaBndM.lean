/- Mathematics of asks whose clocks don't go back; rows that are written; an append of several. -/
import Derived.Test.YtpeijhlheencnaaRunsW
namespace Go.Proofs.Ytpeijhlheencnaa
open Go.RowKit
set_option maxRecDepth 100000
set_option linter.unusedVariables false

/-- The last clock. -/
def lastL (l : List (Int × Int)) : Nat := l.foldl (fun t a => max (clampV a.1).toNat t) 0
/-- Asks as the law makes them. -/
def normL (l : List (Int × Int)) : Nat → List (Nat × Nat)
  | 0 => []
  | k + 1 => normL l k ++ [(max (clampV (l.getD k (0, 0)).1).toNat (lastL (l.take k)), (clampV (l.getD k (0, 0)).2).toNat)]
theorem normL_len (l : List (Int × Int)) (k : Nat) : (normL l k).length = k := by
  induction k with
  | zero => rfl
  | succ k ih => simp [normL, ih]
theorem lastL_take (l : List (Int × Int)) (k : Nat) (h : k < l.length) : lastL (l.take (k + 1)) = max (clampV (l.getD k (0, 0)).1).toNat (lastL (l.take k)) := by
  rw [take_succ_pair l k h]
  unfold lastL
  rw [List.foldl_append]; rfl
theorem lastL_le (l : List (Int × Int)) (k : Nat) (hk : k ≤ l.length) : lastL (l.take k) ≤ 4611686018427387903 := by
  induction k with
  | zero => simp [lastL]
  | succ k ih =>
    have h1 := ih (by omega)
    have h2 := clampV_bd (l.getD k (0, 0)).1
    rw [lastL_take l k (by omega)]
    omega
theorem normL_le (l : List (Int × Int)) (k : Nat) (hk : k ≤ l.length) : ∀ a ∈ normL l k, a.1 ≤ 4611686018427387903 ∧ a.2 ≤ 4611686018427387903 := by
  induction k with
  | zero => simp [normL]
  | succ k ih =>
    intro a ha
    rcases List.mem_append.1 ha with h | h
    · exact ih (by omega) a h
    · simp only [List.mem_singleton] at h
      subst h
      have h1 := clampV_bd (l.getD k (0, 0)).1
      have h2 := clampV_bd (l.getD k (0, 0)).2
      have h3 := lastL_le l k (by omega)
      simp only
      omega
/-- The list while it is gone through. -/
def midL (l : List (Int × Int)) (k : Nat) : List (Int × Int) := cast2 (normL l k) ++ l.drop k
theorem midL_len (l : List (Int × Int)) (k : Nat) (h : k ≤ l.length) : (midL l k).length = l.length := by simp [midL, normL_len]; omega
theorem F2_set0 (a b : List (Int × Int)) (x y z : Int) : (F2 (a ++ (x, y) :: b)).set (a.length * 2) (.int .i64 z) = F2 (a ++ (z, y) :: b) := by
  rw [F2_append, F2_append, ← F2_len, List.set_append_right _ _ (Nat.le_refl _)]
  simp [F2]
theorem F2_set1 (a b : List (Int × Int)) (x y z : Int) : (F2 (a ++ (x, y) :: b)).set (a.length * 2 + 1) (.int .i64 z) = F2 (a ++ (x, z) :: b) := by
  rw [F2_append, F2_append, ← F2_len, List.set_append_right _ _ (by omega)]
  simp [F2]
theorem midL_at (l : List (Int × Int)) (k : Nat) (h : k < l.length) : midL l k = cast2 (normL l k) ++ ((l.getD k (0, 0)).1, (l.getD k (0, 0)).2) :: l.drop (k + 1) := by
  unfold midL
  have e : l.drop k = ((l.getD k (0, 0)).1, (l.getD k (0, 0)).2) :: l.drop (k + 1) := by
    conv => lhs; rw [List.drop_eq_getElem_cons h]
    rw [List.getD_eq_getElem?_getD, List.getElem?_eq_getElem h]; rfl
  rw [e]
theorem midL_succ (l : List (Int × Int)) (k : Nat) : midL l (k + 1) = cast2 (normL l k) ++ (((max (clampV (l.getD k (0, 0)).1).toNat (lastL (l.take k)) : Nat) : Int), ((clampV (l.getD k (0, 0)).2).toNat : Int)) :: l.drop (k + 1) := by
  unfold midL cast2
  rw [normL, List.map_append, List.append_assoc]
  rfl
theorem midL_all (l : List (Int × Int)) : midL l l.length = cast2 (normL l l.length) := by unfold midL; rw [List.drop_length, List.append_nil]

section
variable {w w' : World} {B B' k n c g : Nat} {A : Option Addr} {cs : List Value} {T : TypeId}
theorem OwnC.stored (h : OwnC w B T k (some ⟨g, 0, none⟩) n c cs) (j : Nat) (v : Value) : OwnC (w.setCell ⟨g, j, none⟩ v) B T k (some ⟨g, 0, none⟩) n c (cs.set j v) := (World.ownsRow.stored (w := w) h j v).1
theorem OwnC.grd (h : OwnC w B T k (some ⟨g, 0, none⟩) n c cs) : B ≤ g ∧ g < w.heap.size := by
  rcases h.2 with ⟨h1, h2⟩ | ⟨g', cap, cur, h1, hB, hg, _⟩
  · simp at h1
  · simp only [Value.slice.injEq, Option.some.injEq, Addr.mk.injEq, and_true, true_and] at h1
    obtain ⟨rfl, rfl⟩ := h1
    refine ⟨hB, ?_⟩
    rcases Nat.lt_or_ge g w.heap.size with h | h
    · exact h
    · rw [Array.getElem?_eq_none h] at hg; cases hg
theorem OwnC.frozenAt (h : OwnC w B T k (some ⟨g, 0, none⟩) n c cs) (j : Nat) : w.frozen? ⟨g, j, none⟩ = false := World.ownsRow.frozenAt h j
theorem OwnC.at0 (h : OwnC w B T k A n c cs) (hn : 0 < n) : ∃ g, A = some ⟨g, 0, none⟩ ∧ ∀ j, j < n * k → w.cell? ⟨g, j, none⟩ = cs[j]? := by
  have hh := h
  rcases h.2 with ⟨h1, h2⟩ | ⟨g, cap, cur, h1, h2, h3, h4, h5, h6, h7⟩
  · omega
  · simp only [Value.slice.injEq, true_and] at h1
    obtain ⟨rfl, rfl⟩ := h1
    exact ⟨g, rfl, fun j hj => World.ownsRow.cellAt (w := w) hh j hj⟩
theorem OwnC.lit0 (w : World) (T : TypeId) (k : Nat) : OwnC (w.alloc (.cells #[] T)) w.heap.size T k (some ⟨w.heap.size, 0, none⟩) 0 0 [] := by
  have h := World.ownsRow_lit (base := w.heap.size) (e := T) (size := k) w #[] 0 (Nat.le_refl _) (by unfold maxLen; omega) (by simp)
  unfold OwnC
  simpa using h
end

/-- An append of structs that are read from wherever they lie. -/
theorem wpList_append_rows {w : World} {ops : Array Oper} {rest : List Oper} {o : Oper} {a : Act} {Q : Exit → Act → World → Prop} (hgd : o.guard = none) (s x : Operand) (t : TypeId)
    (ho : o.op = .call { callee := .builtin .append, args := #[s, x], argTypes := #[t, t] })
    (base : Nat) (e : TypeId) (z : Value) (k bytes : Nat) (ht : Try.prog.underlying t = some (.slice e)) (hinfo : (Try.prog.info? e).map (fun i => (i.zero, i.size, i.bytes)) = some (some z, k, bytes)) (hz : z.cells.size = k) (hk : 0 < k)
    (A : Option Addr) (n c : Nat) (cs : List Value) (hs : a.eval s = .slice A n c) (hown : OwnC w base e k A n c cs)
    (B : Nat) (S : Option Addr) (m d : Nat) (vs : List Value) (hx : a.eval x = .slice S m d) (hr : ArgC w B k S m d vs) (h1 : ∀ u ∈ vs, u.oneCell' = true)
    (hn : n + m ≤ maxLen) (hbytes : (n + m) * bytes ≤ 140737488355328) (hbase : base ≤ w.heap.size)
    (h : ∀ A' c' w', OwnC w' base e k A' (n + m) c' (cs ++ vs) → Below base w w' → wpList Try.prog ops Q rest (a.put o.dst (.slice A' (n + m) c')) w') : wpList Try.prog ops Q (o :: rest) a w := by
  obtain ⟨i0, hi, hz0, hz1, hz2⟩ := info_parts hinfo
  have hlt := fun k hk => (World.ownsRow.lt hown k hk).1
  cases S with
  | some ad =>
    have hcell : ∀ j u, vs[j]? = some u → w.cell? (ad.add j) = some u := by
      intro j u hj
      have hjl : j < vs.length := by
        rcases Nat.lt_or_ge j vs.length with h | h
        · exact h
        · rw [List.getElem?_eq_none h] at hj; cases hj
      have hm : 0 < m := by
        rcases Nat.eq_zero_or_pos m with h0 | h0
        · have := hr.len; rw [h0, Nat.zero_mul] at this; omega
        · exact h0
      obtain ⟨b, off, e2, _, hc⟩ := hr.at_ hm
      injection e2 with e2
      subst e2
      have e3 : (⟨b, off, none⟩ : Addr).add j = ⟨b, off + j, none⟩ := by unfold Addr.add; split <;> simp_all
      rw [e3, hc j (by have := hr.len; omega)]
      exact hj
    refine wpList_append_own w hgd s x t ho base e i0 z k bytes ht hi hz0 hz1 hz2 hz hk _ n _ hs hown ad m d vs hx hr.len hcell h1 hn hbytes hbase ?_
    intro v' w' h2 h3 h4
    have hb' : Below base w w' := (Below.refl _ _).grown h3 hbase hlt
    rcases h2.2 with ⟨e, e2⟩ | ⟨g, cap, cur, e, _⟩
    · subst e
      have e0 : n + m = 0 := e2
      rw [e0] at h2
      have := h none 0 w' (by rw [e0]; exact h2) hb'
      rw [e0] at this
      exact this
    · subst e
      exact h _ _ _ h2 hb'
  | none =>
    obtain ⟨rfl, rfl⟩ := hr.none_ rfl
    obtain rfl : vs = [] := List.eq_nil_of_length_eq_zero (by have := hr.len; omega)
    refine wpList_plain hgd fun K hK' => ?_
    have hrun := run_append_owned_none (P := Try.prog) w base t o.type e i0 k ht hi _ n _ hown
    unfold Oper.wp
    simp [execOp, ho, resolve, invoke, builtin, hs, hx, hrun, Result.andThen]
    exact hK' _ _ (by simpa using h A c w (by simpa using hown) (Below.refl _ _))
end Go.Proofs.Ytpeijhlheencnaa
