/- Contract: Left of the document's numbers. -/
import Derived.Test.YtpeijhlheencnaaMinus
namespace Go.Proofs.Ytpeijhlheencnaa
open Go.RowKit
set_option maxRecDepth 100000

/-- What Left has done before its round i: q noughts, then i digits. -/
def LeftRel (xs cs : List Nat) (q r i cy : Nat) : Prop :=
  cs.length = q + i ∧ (∀ d ∈ cs, d < 4294967296) ∧ cy < 4294967296 ∧ Mth.val cs + 4294967296 ^ (q + i) * cy = 4294967296 ^ q * (2 ^ r * Mth.val (xs.take i))

theorem LeftRel.step {xs cs : List Nat} {q r i cy : Nat} (h : LeftRel xs cs q r i cy) (hx : ∀ d ∈ xs, d < 4294967296) (hr : r ≤ 31) :
    LeftRel xs (cs ++ [(xs.getD i 0 * 2 ^ r + cy) % 4294967296]) q r (i + 1) ((xs.getD i 0 * 2 ^ r + cy) / 4294967296) := by
  obtain ⟨h1, h2, h3, h4⟩ := h
  have gx := getD_lt xs hx i
  have hp : 2 ^ r ≤ 2 ^ 31 := Nat.pow_le_pow_right (by omega) hr
  have hm : xs.getD i 0 * 2 ^ r ≤ 4294967295 * 2 ^ 31 := Nat.mul_le_mul (by omega) hp
  refine ⟨by simp [h1]; omega, fun d hd => ?_, by omega, ?_⟩
  · rcases List.mem_append.1 hd with hd | hd
    · exact h2 d hd
    · simp at hd; omega
  · rw [Mth.val_snoc, take_val_succ, h1, ← Nat.add_assoc, Nat.pow_succ]
    generalize xs.getD i 0 = x at *
    have e : 4294967296 ^ (q + i) * ((x * 2 ^ r + cy) % 4294967296) + 4294967296 ^ (q + i) * 4294967296 * ((x * 2 ^ r + cy) / 4294967296) = 4294967296 ^ (q + i) * (x * 2 ^ r + cy) := by
      rw [Nat.mul_assoc, ← Nat.mul_add, Nat.mod_add_div]
    rw [Nat.mul_add, Nat.mul_add, ← h4] at *
    have e2 : 4294967296 ^ q * (2 ^ r * (4294967296 ^ i * x)) = 4294967296 ^ (q + i) * (x * 2 ^ r) := by
      rw [Nat.pow_add, Nat.mul_assoc, Nat.mul_comm x, ← Nat.mul_assoc (2 ^ r), Nat.mul_comm (2 ^ r), Nat.mul_assoc]
    omega

theorem LeftRel.done {xs cs : List Nat} {q r i cy N : Nat} (h : LeftRel xs cs q r i cy) (hx : Mth.Lo xs N) (hi : xs.length ≤ i) : Mth.Lo (cs ++ [cy]) (N * 2 ^ (32 * q + r)) := by
  obtain ⟨h1, h2, h3, h4⟩ := h
  rw [List.take_of_length_le hi, hx.2] at h4
  refine ⟨fun d hd => ?_, ?_⟩
  · rcases List.mem_append.1 hd with hd | hd
    · exact h2 d hd
    · simp at hd; omega
  · rw [Mth.val_snoc, h1, h4, Nat.pow_add, show 4294967296 ^ q = 2 ^ (32 * q) by rw [Nat.pow_mul], ← Nat.mul_assoc, Nat.mul_comm]

theorem replicate_val (q : Nat) : Mth.val (List.replicate q 0) = 0 := by
  induction q with
  | zero => rfl
  | succ q ih => simp [List.replicate_succ, Mth.val, ih]

theorem u64_in {n : Int} (h0 : 0 ≤ n) (h1 : n ≤ 18446744073709551615) : IntKind.u64.wrap n = n := by
  rw [IntKind.wrap_u64]; omega

def LeftInv (w : World) (xs : List Nat) (n q r : Nat) (cv cyv kv : Value) (wr : World) : Prop :=
  ∃ (i cy c : Nat) (A : Option Addr) (cs : List Nat), kv = .int .i64 (i : Int) ∧ cyv = .int .u64 (cy : Int) ∧ cv = .slice A (q + i) c ∧ Own wr w.heap.size A (q + i) c cs ∧ LeftRel xs cs q r i cy ∧ Below w.heap.size w wr ∧ i ≤ n

end Go.Proofs.Ytpeijhlheencnaa
