/- Contract: Size of the document's numbers. -/
import Derived.Test.YtffibfnagoagcaaMem
namespace Go.Proofs.Ytffibfnagoagcaa
open Go.RowKit
set_option maxRecDepth 100000

/-- How many bits a number has. -/
def bits (N : Nat) : Nat := if N = 0 then 0 else Nat.log2 N + 1

theorem bits_zero : bits 0 = 0 := rfl
theorem bits_lt (N : Nat) : N < 2 ^ bits N := by
  unfold bits; split
  · omega
  · exact Nat.lt_log2_self
theorem bits_le {N : Nat} (h : 0 < N) : 0 < bits N ∧ 2 ^ (bits N - 1) ≤ N := by
  unfold bits; rw [if_neg (by omega)]
  exact ⟨by omega, by simpa using Nat.log2_self_le (by omega)⟩
theorem bits_of {N k : Nat} (h1 : N < 2 ^ k) (h2 : k = 0 ∨ 2 ^ (k - 1) ≤ N) : bits N = k := by
  rcases Nat.eq_zero_or_pos N with rfl | hN
  · rcases h2 with h2 | h2
    · rw [h2]; rfl
    · have := Nat.pow_pos (a := 2) (n := k - 1) (by omega); omega
  · obtain ⟨a, b⟩ := bits_le hN
    have c := bits_lt N
    rcases Nat.lt_trichotomy (bits N) k with h | h | h
    · have : 2 ^ bits N ≤ 2 ^ (k - 1) := Nat.pow_le_pow_right (by omega) (by omega)
      omega
    · exact h
    · have : 2 ^ k ≤ 2 ^ (bits N - 1) := Nat.pow_le_pow_right (by omega) (by omega)
      omega

theorem pow32 (k : Nat) : 4294967296 ^ k = 2 ^ (32 * k) := by
  rw [Nat.pow_mul]

/-- The number's bits out of its last digit's. -/
theorem bits_top {xs : List Nat} {N k : Nat} (h : Mth.Lo xs N) (hp : 0 < xs.length) (h1 : xs.getD (xs.length - 1) 0 < 2 ^ k) (h2 : k = 0 ∨ 2 ^ (k - 1) ≤ xs.getD (xs.length - 1) 0) (hk : 0 < k) :
    bits N = 32 * (xs.length - 1) + k := by
  generalize hl : xs.length - 1 = l at *
  have e := Mth.take_succ_getD xs l (by omega)
  rw [show l + 1 = xs.length by omega, List.take_length] at e
  generalize xs.getD l 0 = d at *
  have hv := h.2
  rw [e, Mth.val_snoc, List.length_take, Nat.min_eq_left (by omega)] at hv
  have hlt := Mth.val_lt (l := xs.take l) (fun x hx => h.1 x (List.mem_of_mem_take hx))
  rw [List.length_take, Nat.min_eq_left (by omega)] at hlt
  rw [pow32] at hv hlt
  refine bits_of ?_ (.inr ?_)
  · rw [Nat.pow_add]
    have : 2 ^ (32 * l) * (d + 1) ≤ 2 ^ (32 * l) * 2 ^ k := Nat.mul_le_mul_left _ h1
    rw [Nat.mul_add] at this
    omega
  · rw [show 32 * l + k - 1 = 32 * l + (k - 1) by omega, Nat.pow_add]
    have : 2 ^ (32 * l) * 2 ^ (k - 1) ≤ 2 ^ (32 * l) * d := Nat.mul_le_mul_left _ (by omega)
    omega

theorem div_pow_succ (d k : Nat) : d / 2 ^ (k + 1) = d / 2 ^ k / 2 := by rw [Nat.pow_succ, Nat.div_div_eq_div_mul]

theorem lt_pow_of_div {d k : Nat} (h : d / 2 ^ k = 0) : d < 2 ^ k := by
  have hp := Nat.pow_pos (a := 2) (n := k) (by omega)
  exact (Nat.div_eq_zero_iff_lt hp).1 h
theorem pow_le_of_div {d k : Nat} (h : 0 < d / 2 ^ k) : 2 ^ k ≤ d := by
  have hp := Nat.pow_pos (a := 2) (n := k) (by omega)
  rcases Nat.lt_or_ge d (2 ^ k) with h' | h'
  · rw [Nat.div_eq_of_lt h'] at h; omega
  · exact h'

def SizeInv (d n : Nat) (nv xv : Value) : Prop :=
  ∃ k x : Nat, nv = .int .i64 (32 * ((n : Int) - 1) + k) ∧ xv = .int .u64 (x : Int) ∧ x = d / 2 ^ k ∧ k ≤ 64 ∧ (k = 0 ∨ 2 ^ (k - 1) ≤ d)

end Go.Proofs.Ytffibfnagoagcaa
