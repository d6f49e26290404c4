/- Picks: pairs of a number and a byte, as cells. -/
import Derived.Test.YtddadlomkodgcaaRow
namespace Go.Proofs.Ytddadlomkodgcaa
open Go.RowKit
set_option maxRecDepth 100000
set_option linter.unusedVariables false

def FP (l : List (Int × Int)) : List Value := l.flatMap fun a => [.int .i64 a.1, .int .u8 a.2]
theorem FP_len (l : List (Int × Int)) : (FP l).length = l.length * 2 := by
  induction l with
  | nil => rfl
  | cons a l ih => simp [FP] at *; omega
theorem FP_at (l : List (Int × Int)) (i : Nat) (h : i < l.length) : (FP l)[i * 2]? = some (.int .i64 (l.getD i (0, 0)).1) ∧ (FP l)[i * 2 + 1]? = some (.int .u8 (l.getD i (0, 0)).2) := by
  induction l generalizing i with
  | nil => simp at h
  | cons a l ih =>
    cases i with
    | zero => exact ⟨rfl, rfl⟩
    | succ i =>
      obtain ⟨t0, t1⟩ := ih i (by simpa using h)
      refine ⟨?_, ?_⟩
      · rw [show (i + 1) * 2 = i * 2 + 1 + 1 by omega]; exact t0
      · rw [show (i + 1) * 2 + 1 = i * 2 + 1 + 1 + 1 by omega]; exact t1
theorem pick_at {w : World} {B n c : Nat} {A : Option Addr} {l : List (Int × Int)} (h : ArgC w B 2 A n c (FP l)) {i : Nat} (hi : i < n) :
    ∃ b off, A = some ⟨b, off, none⟩ ∧ b < B ∧ w.cell? ⟨b, off + i * 2, none⟩ = some (.int .i64 (l.getD i (0, 0)).1) ∧ w.cell? ⟨b, off + i * 2 + 1, none⟩ = some (.int .u8 (l.getD i (0, 0)).2) := by
  obtain ⟨b, off, e, hb, hc⟩ := h.at_ (by omega)
  have hl := h.len
  rw [FP_len] at hl
  have := FP_at l i (by omega)
  exact ⟨b, off, e, hb, (hc (i * 2) (by omega)).trans this.1, (hc (i * 2 + 1) (by omega)).trans this.2⟩
def okPick (l : List (Int × Int)) : Prop := ∀ x ∈ l, (-9223372036854775808 ≤ x.1 ∧ x.1 ≤ 9223372036854775807) ∧ 0 ≤ x.2 ∧ x.2 ≤ 255
theorem okPick_at {l : List (Int × Int)} (h : okPick l) (i : Nat) : (-9223372036854775808 ≤ (l.getD i (0, 0)).1 ∧ (l.getD i (0, 0)).1 ≤ 9223372036854775807) ∧ 0 ≤ (l.getD i (0, 0)).2 ∧ (l.getD i (0, 0)).2 ≤ 255 := by
  rcases Nat.lt_or_ge i l.length with hi | hi
  · exact h _ (by rw [List.getD_eq_getElem?_getD, List.getElem?_eq_getElem hi]; exact List.getElem_mem hi)
  · rw [List.getD_eq_getElem?_getD, List.getElem?_eq_none hi]; simp
end Go.Proofs.Ytddadlomkodgcaa
