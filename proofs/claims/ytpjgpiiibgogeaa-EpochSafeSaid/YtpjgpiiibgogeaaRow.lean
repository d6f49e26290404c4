/- Words for slices of structs: what is read, what a call made, cell by cell; an append of one. -/
import Derived.Test.YtpjgpiiibgogeaaBlk
import Derived.Test.YtpjgpiiibgogeaaInts
import Derived.Test.YtpjgpiiibgogeaaComp
import Derived.IntWalk
import Derived.Outline
namespace Go.Proofs.Ytpjgpiiibgogeaa
open Go.RowKit
set_option maxRecDepth 100000
set_option linter.unusedVariables false

/-- The slice value .slice A n c, elements of k cells, reads as the cells cs, below block B. -/
structure ArgC (w : World) (B k : Nat) (A : Option Addr) (n c : Nat) (cs : List Value) : Prop where
  len : cs.length = n * k
  le : n ≤ c
  cap : c ≤ maxLen
  none_ : A = none → n = 0 ∧ c = 0
  at_ : 0 < n → ∃ b off, A = some ⟨b, off, none⟩ ∧ b < B ∧ ∀ j, j < n * k → w.cell? ⟨b, off + j, none⟩ = cs[j]?

section
variable {w w' : World} {B B' k n c : Nat} {A : Option Addr} {cs : List Value}
theorem ArgC.below (h : ArgC w B k A n c cs) (hb : Below B w w') : ArgC w' B k A n c cs :=
  ⟨h.len, h.le, h.cap, h.none_, fun hn => by
    obtain ⟨b, off, e, hB, hc⟩ := h.at_ hn
    exact ⟨b, off, e, hB, fun j hj => (hb.cell (p := ⟨b, off + j, none⟩) hB).trans (hc j hj)⟩⟩
theorem ArgC.more (h : ArgC w B k A n c cs) (hB : B ≤ B') : ArgC w B' k A n c cs :=
  ⟨h.len, h.le, h.cap, h.none_, fun hn => by
    obtain ⟨b, off, e, hb, hc⟩ := h.at_ hn
    exact ⟨b, off, e, by omega, hc⟩⟩
theorem ArgC.drewN (h : ArgC w B k A n c cs) (t : Nat) : ArgC (w.drewN t) B k A n c cs := ⟨h.len, h.le, h.cap, h.none_, h.at_⟩
theorem ArgC.to_ (h : ArgC w B k A n c cs) {m : Nat} (hm : m ≤ n) : ArgC w B k A m c (cs.take (m * k)) := by
  have hmk : m * k ≤ n * k := Nat.mul_le_mul_right k hm
  refine ⟨by rw [List.length_take, h.len]; omega, by have := h.le; omega, h.cap, fun he => ?_, fun hn => ?_⟩
  · have := h.none_ he; omega
  · obtain ⟨b, off, e, hb, hc⟩ := h.at_ (by omega)
    refine ⟨b, off, e, hb, fun j hj => ?_⟩
    rw [hc j (by omega), List.getElem?_take, if_pos hj]

def OwnC (w : World) (B : Nat) (T : TypeId) (k : Nat) (A : Option Addr) (n c : Nat) (cs : List Value) : Prop := w.ownsRow B T k (.slice A n c) n cs
variable {T : TypeId}
theorem OwnC.arg (h : OwnC w B T k A n c cs) : ArgC w w.heap.size k A n c cs := by
  have hl := h.1
  have hh := h
  rcases h.2 with ⟨h1, h2⟩ | ⟨g, cap, cur, h1, h2, h3, h4, h5, h6, h7⟩
  · simp only [Value.slice.injEq] at h1
    obtain ⟨rfl, _, rfl⟩ := h1
    exact ⟨hl, by omega, by unfold maxLen; omega, fun _ => ⟨h2, rfl⟩, fun hn => absurd hn (by omega)⟩
  · simp only [Value.slice.injEq, true_and] at h1
    obtain ⟨rfl, rfl⟩ := h1
    have hlt : g < w.heap.size := by
      rcases Nat.lt_or_ge g w.heap.size with h | h
      · exact h
      · rw [Array.getElem?_eq_none h] at h3; cases h3
    refine ⟨hl, h4, h5, (fun h => by cases h), fun hn => ⟨g, 0, rfl, hlt, fun j hj => ?_⟩⟩
    have := World.ownsRow.cellAt (w := w) hh j hj
    rw [Nat.zero_add, this]
theorem OwnC.mono (h : OwnC w B T k A n c cs) (hB : B' ≤ B) : OwnC w B' T k A n c cs := by
  rcases h with ⟨h0, h | ⟨g, cap, cur, h1, h2, h3⟩⟩
  · exact ⟨h0, .inl h⟩
  · exact ⟨h0, .inr ⟨g, cap, cur, h1, Nat.le_trans hB h2, h3⟩⟩
theorem OwnC.below (h : OwnC w B T k A n c cs) (hb : Below w.heap.size w w') : OwnC w' B T k A n c cs := by
  rcases h with ⟨h0, h | ⟨g, cap, cur, h1, h2, h3, h4⟩⟩
  · exact ⟨h0, .inl h⟩
  · have hlt : g < w.heap.size := by
      rcases Nat.lt_or_ge g w.heap.size with h | h
      · exact h
      · rw [Array.getElem?_eq_none h] at h3; cases h3
    exact ⟨h0, .inr ⟨g, cap, cur, h1, h2, (hb.block g hlt).trans h3, h4⟩⟩
theorem OwnC.drewN (h : OwnC w B T k A n c cs) (t : Nat) : OwnC (w.drewN t) B T k A n c cs := h
theorem OwnC.nil (w : World) (B : Nat) (T : TypeId) (k : Nat) : OwnC w B T k none 0 0 [] := World.ownsRow_nil _ _ _ _
end

/-- An append of one struct that lies in a block of its own. -/
theorem wpList_append_row {w : World} {ops : Array Oper} {rest : List Oper} {o : Oper} {a : Act} {Q : Exit → Act → World → Prop} (hgd : o.guard = none) (s x : Operand) (t : TypeId)
    (ho : o.op = .call { callee := .builtin .append, args := #[s, x], argTypes := #[t, t] })
    (base : Nat) (e : TypeId) (z : Value) (k bytes : Nat) (ht : Try.prog.underlying t = some (.slice e)) (hinfo : (Try.prog.info? e).map (fun i => (i.zero, i.size, i.bytes)) = some (some z, k, bytes)) (hz : z.cells.size = k) (hk : 0 < k)
    (A : Option Addr) (n c : Nat) (cs : List Value) (hs : a.eval s = .slice A n c) (hown : OwnC w base e k A n c cs)
    (g m : Nat) (vs : List Value) (hx : a.eval x = .slice (some ⟨g, 0, none⟩) 1 m) (hvs : vs.length = k) (hcell : ∀ j u, vs[j]? = some u → w.cell? ⟨g, j, none⟩ = some u) (h1 : ∀ u ∈ vs, u.oneCell' = true)
    (hn : n + 1 ≤ maxLen) (hbytes : (n + 1) * bytes ≤ 140737488355328) (hbase : base ≤ w.heap.size)
    (h : ∀ A' c' w', OwnC w' base e k A' (n + 1) c' (cs ++ vs) → Below base w w' → wpList Try.prog ops Q rest (a.put o.dst (.slice A' (n + 1) c')) w') : wpList Try.prog ops Q (o :: rest) a w := by
  obtain ⟨i0, hi, hz0, hz1, hz2⟩ := info_parts hinfo
  have hlt := fun k hk => (World.ownsRow.lt hown k hk).1
  refine wpList_append_own w hgd s x t ho base e i0 z k bytes ht hi hz0 hz1 hz2 hz hk _ n _ hs hown ⟨g, 0, none⟩ 1 m vs hx (by omega) (fun j u hj => ?_) h1 hn hbytes hbase ?_
  · have e2 : (⟨g, 0, none⟩ : Addr).add j = ⟨g, j, none⟩ := by unfold Addr.add; split <;> simp_all
    rw [e2]; exact hcell j u hj
  · intro v' w' h2 h3 h4
    have hb' : Below base w w' := (Below.refl _ _).grown h3 hbase hlt
    rcases h2.2 with ⟨e, e2⟩ | ⟨g, cap, cur, e, _⟩
    · omega
    · subst e
      exact h _ _ _ h2 hb'

/-- Pairs as cells. -/
def F2 (l : List (Int × Int)) : List Value := l.flatMap fun a => [.int .i64 a.1, .int .i64 a.2]
theorem F2_len (l : List (Int × Int)) : (F2 l).length = l.length * 2 := by
  induction l with
  | nil => rfl
  | cons a l ih => simp [F2] at *; omega
theorem F2_append (l m : List (Int × Int)) : F2 (l ++ m) = F2 l ++ F2 m := by unfold F2; rw [List.flatMap_append]
theorem F2_at (l : List (Int × Int)) (i : Nat) (h : i < l.length) : (F2 l)[i * 2]? = some (.int .i64 (l.getD i (0, 0)).1) ∧ (F2 l)[i * 2 + 1]? = some (.int .i64 (l.getD i (0, 0)).2) := by
  induction l generalizing i with
  | nil => simp at h
  | cons a l ih =>
    cases i with
    | zero => exact ⟨rfl, rfl⟩
    | succ i =>
      have := ih i (by simpa using h)
      have e1 : (i + 1) * 2 = i * 2 + 1 + 1 := by omega
      have e2 : (i + 1) * 2 + 1 = i * 2 + 1 + 1 + 1 := by omega
      rw [e2, e1]
      simpa [F2] using this
theorem take_succ_pair (l : List (Int × Int)) (n : Nat) (h : n < l.length) : l.take (n + 1) = l.take n ++ [l.getD n (0, 0)] := by
  rw [List.take_succ_eq_append_getElem h]; simp [List.getD_eq_getElem?_getD, h]

end Go.Proofs.Ytpjgpiiibgogeaa
