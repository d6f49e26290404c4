/- Words for memory: a slice of uint64 that a call made, read as a list of natural numbers. -/
import Derived.Test.YtifldnkcheobhaaDoorMath
import Derived.Test.YtifldnkcheobhaaDoorProg
import Derived.WalkKit
import Derived.Lib.Hide
import Derived.OpenShut
import Derived.Deep.QuietTactic
import Derived.BigQuiet
namespace Go.Proofs.YtifldnkcheobhaaDoor
open Go.RowKit

theorem ret_int {k : IntKind} {a b : Int} (h : a = b) : Ending.returned (.int k a) = .returned (.int k b) := by rw [h]
theorem ret_bool {a b : Bool} (h : a = b) : Ending.returned (.bool a) = .returned (.bool b) := by rw [h]
theorem ret_ii {k l : IntKind} {a b c d : Int} (h : a = b) (g : c = d) : Ending.returned (.tuple #[.int k a, .int l c]) = .returned (.tuple #[.int k b, .int l d]) := by rw [h, g]
theorem ret_ib {k : IntKind} {a b : Int} {c d : Bool} (h : a = b) (g : c = d) : Ending.returned (.tuple #[.int k a, .bool c]) = .returned (.tuple #[.int k b, .bool d]) := by rw [h, g]
theorem ret_iii {k l m : IntKind} {a b c d x y : Int} (h : a = b) (g : c = d) (i : x = y) : Ending.returned (.tuple #[.int k a, .int l c, .int m x]) = .returned (.tuple #[.int k b, .int l d, .int m y]) := by rw [h, g, i]

/-- A digit as a value. -/
abbrev U (d : Nat) : Value := .int .u64 (d : Int)

/-- The slice value .slice A n c holds the numbers xs, in a row of its own from block B on. -/
def Own (w : World) (B : Nat) (A : Option Addr) (n c : Nat) (xs : List Nat) : Prop :=
  w.ownsRow B 164 1 (.slice A n c) n (xs.map U)

section
variable {w w' : World} {B B' n c : Nat} {A : Option Addr} {xs : List Nat}

theorem Own.len (h : Own w B A n c xs) : xs.length = n := by
  have := h.1; simpa using this

theorem Own.le (h : Own w B A n c xs) : n ≤ c := by
  rcases h.2 with ⟨h1, h2⟩ | ⟨g, cap, cur, h1, _, _, h2, _⟩
  · omega
  · simp only [Value.slice.injEq] at h1; omega

theorem Own.cap (h : Own w B A n c xs) : c ≤ maxLen := by
  rcases h.2 with ⟨h1, h2⟩ | ⟨g, cap, cur, h1, _, _, _, h2, _⟩
  · simp only [Value.slice.injEq] at h1; unfold maxLen; omega
  · simp only [Value.slice.injEq] at h1; omega

theorem Own.at_ (h : Own w B A n c xs) {k : Nat} (hk : k < n) :
    ∃ g, A = some ⟨g, 0, none⟩ ∧ B ≤ g ∧ g < w.heap.size ∧ w.cell? ⟨g, k, none⟩ = some (U (xs.getD k 0)) := by
  have hl := h.len
  have h' := h
  rcases h.2 with ⟨h1, h2⟩ | ⟨g, cap, cur, h1, hB, hg, _⟩
  · omega
  · simp only [Value.slice.injEq, true_and] at h1
    obtain ⟨rfl, rfl⟩ := h1
    have hlt : g < w.heap.size := by
      rcases Nat.lt_or_ge g w.heap.size with h | h
      · exact h
      · rw [Array.getElem?_eq_none h] at hg; cases hg
    refine ⟨g, rfl, hB, hlt, ?_⟩
    have := World.ownsRow.cellAt (w := w) h' k (by omega)
    rw [this, List.getElem?_map, List.getElem?_eq_getElem (by omega)]
    simp [U, List.getD_eq_getElem?_getD, hl, hk]

theorem Own.mono (h : Own w B A n c xs) (hB : B' ≤ B) : Own w B' A n c xs := by
  rcases h with ⟨h0, h | ⟨g, cap, cur, h1, h2, h3⟩⟩
  · exact ⟨h0, .inl h⟩
  · exact ⟨h0, .inr ⟨g, cap, cur, h1, Nat.le_trans hB h2, h3⟩⟩

theorem Own.below (h : Own w B A n c xs) (hb : Below w.heap.size w w') : Own w' B A n c xs := by
  rcases h with ⟨h0, h | ⟨g, cap, cur, h1, h2, h3, h4⟩⟩
  · exact ⟨h0, .inl h⟩
  · have hlt : g < w.heap.size := by
      rcases Nat.lt_or_ge g w.heap.size with h | h
      · exact h
      · rw [Array.getElem?_eq_none h] at h3; cases h3
    exact ⟨h0, .inr ⟨g, cap, cur, h1, h2, (hb.block g hlt).trans h3, h4⟩⟩

theorem Own.drewN (h : Own w B A n c xs) (k : Nat) : Own (w.drewN k) B A n c xs := h
theorem Own.drew (h : Own w B A n c xs) : Own w.drew B A n c xs := h

/-- A piece from the head on. -/
theorem Own.take (h : Own w B A n c xs) {k : Nat} (hk : k ≤ n) : Own w B A k c (xs.take k) := by
  have hl := h.len
  rcases h with ⟨h0, ⟨h, rfl⟩ | ⟨g, cap, cur, h1, h2, h3, h4, h5, h6, h7⟩⟩
  · simp only [Value.slice.injEq] at h
    obtain ⟨rfl, _, rfl⟩ := h
    obtain rfl : k = 0 := by omega
    exact ⟨by simp, .inl ⟨rfl, rfl⟩⟩
  · simp only [Value.slice.injEq, true_and] at h1
    obtain ⟨rfl, rfl⟩ := h1
    refine ⟨by simp; omega, .inr ⟨g, _, cur, rfl, h2, h3, by omega, h5, h6, ?_⟩⟩
    rw [List.map_take, ← h7, List.take_take]
    congr 1
    omega

/-- A slice that reads as the digits of N. -/
structure Num (w : World) (A : Option Addr) (n c : Nat) (xs : List Nat) (N : Nat) : Prop where
  own : Own w 0 A n c xs
  dig : Mth.Dig xs N

theorem Num.below {N : Nat} (h : Num w A n c xs N) (hb : Below w.heap.size w w') : Num w' A n c xs N := ⟨h.own.below hb, h.dig⟩

/-- How a call ends that answers a slice that reads as the digits of N, at most L of them. -/
def NumEnd (w : World) (N L : Nat) (e : Ending) (w' : World) : Prop :=
  ∃ A n c xs, e = .returned (.slice A n c) ∧ Num w' A n c xs N ∧ n ≤ L ∧ Below w.heap.size w w'

end
end Go.Proofs.YtifldnkcheobhaaDoor
