/- Contracts: the document's answers that round a quotient: word, Tick, Shift, Whole. -/
import Derived.Test.YtffibfnagoagcaaExact
namespace Go.Proofs.Ytffibfnagoagcaa
open Go.RowKit
set_option maxRecDepth 100000

theorem num_len_le {w w' : World} {A B : Option Addr} {n m c d N M : Nat} {xs ys : List Nat} (h : Num w A n c xs N) (k : Num w' B m d ys M) (hle : N ≤ M) : n ≤ m := by
  rcases Nat.lt_or_ge m n with h1 | h1
  · have := Mth.Dig.lt_of_len k.dig h.dig (by rw [k.own.len, h.own.len]; exact h1)
    omega
  · exact h1
theorem num_zero {w : World} {A : Option Addr} {n c N : Nat} {xs : List Nat} (h : Num w A n c xs N) : n = 0 ↔ N = 0 := by
  rw [← h.dig.zero_iff, ← h.own.len]
  exact List.length_eq_zero_iff
theorem num_odd {w : World} {A : Option Addr} {n c N : Nat} {xs : List Nat} (h : Num w A n c xs N) : xs.getD 0 0 % 2 = N % 2 := by
  have := h.dig.1.2
  rcases xs with _ | ⟨d, l⟩
  · simp [Mth.val] at this; subst this; rfl
  · simp only [Mth.val] at this
    simp
    omega

/-- Whether a rounded quotient is one more, and the rounded quotient. -/
def upB (N M how : Nat) : Bool := decide (how = 1 ∧ 0 < N % M) || decide (how = 2 ∧ (M < N % M + N % M ∨ N % M + N % M = M ∧ N / M % 2 = 1))
theorem upB_true {N M how : Nat} (h : how = 1 ∧ 0 < N % M ∨ how = 2 ∧ (M < N % M + N % M ∨ N % M + N % M = M ∧ N / M % 2 = 1)) : upB N M how = true := by
  unfold upB
  rw [Bool.or_eq_true, decide_eq_true_eq, decide_eq_true_eq]
  exact h
theorem upB_false {N M how : Nat} (h : ¬ (how = 1 ∧ 0 < N % M ∨ how = 2 ∧ (M < N % M + N % M ∨ N % M + N % M = M ∧ N / M % 2 = 1))) : upB N M how = false := by
  rcases hb : upB N M how with _ | _
  · rfl
  · unfold upB at hb
    rw [Bool.or_eq_true, decide_eq_true_eq, decide_eq_true_eq] at hb
    exact absurd hb h
def roundV (N M how : Nat) : Nat := if upB N M how then N / M + 1 else N / M

theorem wrap64u (a : Int) (h0 : 0 ≤ a) (h1 : a ≤ 9223372036854775807) : IntKind.u64.wrap a = a := u64_in h0 (by omega)

/-- How Tick ends. -/
def TickEnd (w : World) (N : Nat) (e : Ending) (w' : World) : Prop :=
  (if N ≤ 4611686018427387903 then e = .returned (.tuple #[.int .i64 (N : Int), .bool true]) else ∃ v, e = .returned (.tuple #[.int .i64 v, .bool false])) ∧ w = w'

/-- How Shift ends: N over M, with at most L digits each. -/
def TwoNums (w : World) (N M L : Nat) (e : Ending) (w' : World) : Prop :=
  ∃ A n c xs B m d ys, e = .returned (.tuple #[.slice A n c, .slice B m d]) ∧ Num w' A n c xs N ∧ Num w' B m d ys M ∧ n ≤ L ∧ m ≤ L ∧ Below w.heap.size w w'

/-- m times 2^e as a fraction. -/
def upN (m : Nat) (e : Int) : Nat := m * 2 ^ e.toNat
def dnN (e : Int) : Nat := 2 ^ (-e).toNat
theorem dnN_pos (e : Int) : 0 < dnN e := Nat.pow_pos (by omega)

theorem whole_stay {w w' : World} {N M how n c L : Nat} {A : Option Addr} {xs : List Nat} (h : Num w' A n c xs (N / M)) (hb : Below w.heap.size w w') (hu : ¬ (how = 1 ∧ 0 < N % M ∨ how = 2 ∧ (M < N % M + N % M ∨ N % M + N % M = M ∧ N / M % 2 = 1))) (hl : n ≤ L) :
    NumEnd w (roundV N M how) L (.returned (.slice A n c)) w' :=
  ⟨_, _, _, _, rfl, by unfold roundV; rw [upB_false hu]; exact h, hl, hb⟩

theorem whole_up {w w' : World} {N M how n c L : Nat} {A : Option Addr} {xs : List Nat} (h : Num w' A n c xs (N / M + 1)) (hb : Below w.heap.size w w') (hu : upB N M how = true) (hl : n ≤ L) :
    NumEnd w (roundV N M how) L (.returned (.slice A n c)) w' :=
  ⟨_, _, _, _, rfl, by unfold roundV; rw [hu]; exact h, hl, hb⟩

end Go.Proofs.Ytffibfnagoagcaa
