/- Numbers of 128 bits in two words: shifts. -/
import Derived.Test.YtffibfnagoagcaaApart
namespace Go.Proofs.Ytffibfnagoagcaa

theorem pow64 {k : Nat} (h : k ≤ 64) : 2 ^ k * 2 ^ (64 - k) = 18446744073709551616 := by
  rw [← Nat.pow_add, show k + (64 - k) = 64 by omega]
theorem or_add {a b i : Nat} (h : b < 2 ^ i) : b ||| a * 2 ^ i = a * 2 ^ i + b := by
  rw [Nat.or_comm, Nat.mul_comm, Nat.two_pow_add_eq_or_of_lt h]
theorem mul_mod64 {a k : Nat} (h : k ≤ 64) : a * 2 ^ k % 18446744073709551616 = a % 2 ^ (64 - k) * 2 ^ k := by
  have e := pow64 (k := k) h
  rw [← e, Nat.mul_comm (2 ^ k), Nat.mul_mod_mul_right]
theorem div_lt64 {a k : Nat} (h : k ≤ 64) (ha : a < 18446744073709551616) : a / 2 ^ k < 2 ^ (64 - k) := by
  rw [Nat.div_lt_iff_lt_mul (pow_pos2 k), Nat.mul_comm, pow64 h]
  exact ha

theorem right_hi1 (hi lo k : Nat) (h2 : lo < 18446744073709551616) : (hi * 18446744073709551616 + lo) / 2 ^ k / 18446744073709551616 = hi / 2 ^ k := by
  rw [Nat.div_div_eq_div_mul, Nat.mul_comm (2 ^ k), ← Nat.div_div_eq_div_mul]
  congr 1
  omega
theorem right_lo1 (hi lo k : Nat) (h2 : lo < 18446744073709551616) (hk : k ≤ 64) : (hi * 18446744073709551616 + lo) / 2 ^ k % 18446744073709551616 = lo / 2 ^ k ||| hi * 2 ^ (64 - k) % 18446744073709551616 := by
  rw [mul_mod64 (by omega), show 64 - (64 - k) = k by omega, or_add (div_lt64 hk h2)]
  have e : (hi * 18446744073709551616 + lo) / 2 ^ k = hi * 2 ^ (64 - k) + lo / 2 ^ k := by
    rw [← pow64 (k := k) hk, Nat.mul_comm (2 ^ k), ← Nat.mul_assoc, Nat.mul_comm, Nat.mul_add_div (pow_pos2 k)]
  have h3 := div_lt64 hk h2
  rw [e, Nat.add_mod, mul_mod64 (by omega), show 64 - (64 - k) = k by omega]
  have h4 : hi % 2 ^ k < 2 ^ k := Nat.mod_lt _ (pow_pos2 k)
  have h5 : (hi % 2 ^ k + 1) * 2 ^ (64 - k) ≤ 2 ^ k * 2 ^ (64 - k) := Nat.mul_le_mul_right _ h4
  rw [pow64 hk, Nat.add_mul] at h5
  rw [Nat.mod_eq_of_lt (a := lo / 2 ^ k) (by omega)]
  exact Nat.mod_eq_of_lt (by omega)
theorem right_lo2 (hi lo k : Nat) (h2 : lo < 18446744073709551616) (hk : 64 ≤ k) : (hi * 18446744073709551616 + lo) / 2 ^ k = hi / 2 ^ (k - 64) := by
  have e : 2 ^ k = 18446744073709551616 * 2 ^ (k - 64) := by
    rw [show (18446744073709551616 : Nat) = 2 ^ 64 by decide, ← Nat.pow_add, show 64 + (k - 64) = k by omega]
  rw [e, ← Nat.div_div_eq_div_mul]
  congr 1
  omega
theorem big_zero {a k : Nat} (h : a < 18446744073709551616) (hk : 64 ≤ k) : a / 2 ^ k = 0 := by
  have : 2 ^ 64 ≤ 2 ^ k := Nat.pow_le_pow_right (by omega) hk
  exact Nat.div_eq_of_lt (by omega)

/-- What is left of a shift to the left in 128 bits. -/
def shl2 (v k : Nat) : Nat := v * 2 ^ k % 340282366920938463463374607431768211456
theorem shl2_hi (hi lo k : Nat) (h2 : lo < 18446744073709551616) (hk : k ≤ 64) : shl2 (hi * 18446744073709551616 + lo) k / 18446744073709551616 = hi * 2 ^ k % 18446744073709551616 ||| lo / 2 ^ (64 - k) := by
  have h3 := div_lt64 (a := lo) (k := 64 - k) (by omega) h2
  rw [show 64 - (64 - k) = k by omega] at h3
  rw [mul_mod64 hk, Nat.or_comm, or_add h3]
  have e : lo * 2 ^ k / 18446744073709551616 = lo / 2 ^ (64 - k) := by
    rw [← pow64 hk, Nat.mul_comm (2 ^ k), Nat.mul_div_mul_right _ _ (pow_pos2 k)]
  have h4 : hi % 2 ^ (64 - k) < 2 ^ (64 - k) := Nat.mod_lt _ (pow_pos2 _)
  have h5 : (hi % 2 ^ (64 - k) + 1) * 2 ^ k ≤ 2 ^ (64 - k) * 2 ^ k := Nat.mul_le_mul_right _ h4
  rw [Nat.mul_comm (2 ^ (64 - k)), pow64 hk, Nat.add_mul] at h5
  have h6 := mul_mod64 (a := hi) hk
  unfold shl2
  rw [Nat.add_mul, Nat.mul_right_comm]
  rw [← e] at h3 ⊢
  rw [← h6] at h5 ⊢
  generalize lo * 2 ^ k = y at *
  generalize hi * 2 ^ k = x at *
  omega
theorem shl2_lo (hi lo k : Nat) : shl2 (hi * 18446744073709551616 + lo) k % 18446744073709551616 = lo * 2 ^ k % 18446744073709551616 := by
  unfold shl2
  rw [Nat.add_mul, Nat.mul_right_comm]
  generalize lo * 2 ^ k = y
  generalize hi * 2 ^ k = x
  omega
theorem shl2_big (hi lo k : Nat) (hk : 64 ≤ k) : shl2 (hi * 18446744073709551616 + lo) k = lo * 2 ^ (k - 64) % 18446744073709551616 * 18446744073709551616 := by
  have e : 2 ^ k = 2 ^ (k - 64) * 18446744073709551616 := by
    rw [show (18446744073709551616 : Nat) = 2 ^ 64 by decide, ← Nat.pow_add, show k - 64 + 64 = k by omega]
  unfold shl2
  rw [e, Nat.add_mul, ← Nat.mul_assoc, ← Nat.mul_assoc, Nat.mul_right_comm hi]
  generalize lo * 2 ^ (k - 64) = y
  generalize hi * 2 ^ (k - 64) = x
  omega
theorem shl2_lt (v k : Nat) : shl2 v k < 340282366920938463463374607431768211456 := Nat.mod_lt _ (by omega)
theorem big_shl {a k : Nat} (hk : 64 ≤ k) : a * 2 ^ k % 18446744073709551616 = 0 := by
  have e : 2 ^ k = 2 ^ (k - 64) * 18446744073709551616 := by
    rw [show (18446744073709551616 : Nat) = 2 ^ 64 by decide, ← Nat.pow_add, show k - 64 + 64 = k by omega]
  rw [e, ← Nat.mul_assoc]
  omega

/-! The walk's own spellings. -/
theorem cast_div (a k : Nat) : (a : Int) / 2 ^ k = ((a / 2 ^ k : Nat) : Int) := by rw [Int.natCast_ediv, Int.natCast_pow]; rfl
theorem cast_shl (a k : Nat) : IntKind.u64.wrap ((a : Int) * 2 ^ k) = ((a * 2 ^ k % 18446744073709551616 : Nat) : Int) := by
  rw [IntKind.wrap_u64, Int.natCast_emod, Int.natCast_mul, Int.natCast_pow]; rfl
theorem cast_or (a b : Nat) (ha : a < 18446744073709551616) (hb : b < 18446744073709551616) : Go.bits BinOp.or IntKind.u64 (a : Int) (b : Int) = ((a ||| b : Nat) : Int) := bits_or_u64_nat a b ha hb
end Go.Proofs.Ytffibfnagoagcaa
