/- Contracts of the document's perm: DocNew, DocTake, DocGive. -/
import Derived.Test.YthigbhhhhebjeaaPermE
namespace Go.Proofs.Ythigbhhhhebjeaa
open Go.RowKit
set_option maxRecDepth 100000

set_option maxHeartbeats 800000 in
theorem docNew6_any (w : World) (p : Int) :
    Calls Try.prog 36 #[.int .i64 p] w (ValEnd w (if 1 ≤ p ∧ p ≤ 64 then .tuple #[.agg #[.int .i64 p, .slice none 0 0], .int .i64 0] else .tuple #[.agg #[.int .i64 0, .slice none 0 0], .int .i64 1])) := by
  have hb2 : ∀ v, (Below w.heap.size w (w.alloc (.cells #[v, .slice none 0 0] 73))) := fun v => (Below.refl _ w).alloc (Nat.le_refl _) _
  have HB := Lib.hid hb2
  clear hb2
  by_cases h1 : p < 1
  · rw [if_neg (by omega)]
    have q : decide (p < 1) = true := decide_eq_true h1
    clear h1
    go_enter Try.func36, Try.ntmps36
    go_wp2
    exact bodyPost_ret (v := .tuple #[.agg #[.int .i64 0, .slice none 0 0], .int .i64 1]) (by simp [results, Try.results36, go_sem]) rfl ⟨rfl, HB.out _⟩
  · have q : decide (p < 1) = false := decide_eq_false h1
    by_cases h2 : 64 < p
    · rw [if_neg (by omega)]
      have q2 : decide (64 < p) = true := decide_eq_true h2
      clear h1 h2
      go_enter Try.func36, Try.ntmps36
      go_wp2
      exact bodyPost_ret (v := .tuple #[.agg #[.int .i64 0, .slice none 0 0], .int .i64 1]) (by simp [results, Try.results36, go_sem]) rfl ⟨rfl, HB.out _⟩
    · rw [if_pos (by omega)]
      have q2 : decide (64 < p) = false := decide_eq_false h2
      clear h1 h2
      go_enter Try.func36, Try.ntmps36
      go_wp2
      exact bodyPost_ret (v := .tuple #[.agg #[.int .i64 p, .slice none 0 0], .int .i64 0]) (by simp [results, Try.results36, go_sem]) rfl ⟨rfl, HB.out _⟩

set_option maxHeartbeats 1600000 in
theorem doct_arg (w : World) (A : Option Addr) (n c : Nat) (p t : Int) (h : t < 1 ∨ 4611686018427387903 < t) :
    Calls Try.prog 34 #[.agg #[.int .i64 p, .slice A n c], .int .i64 t] w (ValEnd w (.tuple #[.agg #[.int .i64 0, .slice none 0 0], .int .i64 1])) := by
  by_cases h1 : t < 1
  · have q : decide (t < 1) = true := decide_eq_true h1
    clear h h1
    go_enter Try.func34, Try.ntmps34
    go_wp2
    exact bodyPost_ret (v := .tuple #[.agg #[.int .i64 0, .slice none 0 0], .int .i64 1]) (by simp [results, Try.results34, go_sem]) rfl ⟨rfl, ((Below.refl w.heap.size w).alloc (Nat.le_refl _) _).alloc (by simp) _⟩
  · have q : decide (t < 1) = false := decide_eq_false h1
    have q2 : decide (4611686018427387903 < t) = true := decide_eq_true (by omega)
    clear h h1
    go_enter Try.func34, Try.ntmps34
    go_wp2
    exact bodyPost_ret (v := .tuple #[.agg #[.int .i64 0, .slice none 0 0], .int .i64 1]) (by simp [results, Try.results34, go_sem]) rfl ⟨rfl, ((Below.refl w.heap.size w).alloc (Nat.le_refl _) _).alloc (by simp) _⟩
end Go.Proofs.Ythigbhhhhebjeaa
