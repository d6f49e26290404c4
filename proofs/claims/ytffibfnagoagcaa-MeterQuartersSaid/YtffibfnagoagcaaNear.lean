/- Contract: the document's float nearest to a quotient. -/
import Derived.Test.YtffibfnagoagcaaTicks
import Derived.Test.YtffibfnagoagcaaSize
namespace Go.Proofs.Ytffibfnagoagcaa
open Go.RowKit
set_option maxRecDepth 100000

/-- The quotient with 54 or 55 bits: the power of two of its last bit, and its two numbers. -/
def nearP (N M : Nat) : Int := (bits N : Int) - bits M - 54
def nearU (N M : Nat) : Nat := N * 2 ^ (-nearP N M).toNat
def nearD (N M : Nat) : Nat := M * 2 ^ (nearP N M).toNat
/-- How many of its bits are let go: one or two. -/
def nearK (N M : Nat) : Nat := if nearU N M / nearD N M < 18014398509481984 then 1 else 2
/-- The bits of the float nearest to N over M. -/
def nearB (N M : Nat) : Nat := if N = 0 then 0 else (nearP N M + nearK N M + 1074).toNat * 4503599627370496 + roundV (nearU N M) (nearD N M * 2 ^ nearK N M) 2

/-- What Nearest answers where it stops in the next step: with n, m, and whether there is more. -/
def finB (n : Int) (m : Nat) (mo : Bool) : Nat := (n + 1075).toNat * 4503599627370496 + (m / 2 + if m % 2 = 1 ∧ (mo = true ∨ m / 2 % 2 = 1) then 1 else 0)

theorem near_size {N M : Nat} (hN : 0 < N) (hM : 0 < M) : 9007199254740992 ≤ nearU N M / nearD N M ∧ nearU N M / nearD N M < 36028797018963968 ∧ 0 < nearD N M := by
  have hd : 0 < nearD N M := Nat.mul_pos hM (Nat.pow_pos (by omega))
  have a1 := (bits_le hN).2
  have a0 := (bits_le hN).1
  have a2 := bits_lt N
  have b1 := (bits_le hM).2
  have b0 := (bits_le hM).1
  have b2 := bits_lt M
  -- U lies from 2^(bits N - 1 + i) to 2^(bits N + i), D from 2^(bits M - 1 + j) to 2^(bits M + j)
  have u1 : 2 ^ (bits N - 1) * 2 ^ (-nearP N M).toNat ≤ nearU N M := Nat.mul_le_mul_right _ a1
  have u2 : nearU N M < 2 ^ bits N * 2 ^ (-nearP N M).toNat := Nat.mul_lt_mul_of_pos_right a2 (Nat.pow_pos (by omega))
  have d1 : 2 ^ (bits M - 1) * 2 ^ (nearP N M).toNat ≤ nearD N M := Nat.mul_le_mul_right _ b1
  have d2 : nearD N M < 2 ^ bits M * 2 ^ (nearP N M).toNat := Nat.mul_lt_mul_of_pos_right b2 (Nat.pow_pos (by omega))
  rw [← Nat.pow_add] at u1 u2 d1 d2
  have e : (nearP N M : Int) = (bits N : Int) - bits M - 54 := rfl
  refine ⟨?_, ?_, hd⟩
  · rw [Nat.le_div_iff_mul_le hd]
    have h1 : 9007199254740992 * nearD N M ≤ 2 ^ 53 * 2 ^ (bits M + (nearP N M).toNat) := Nat.mul_le_mul (by decide) (by omega)
    rw [← Nat.pow_add] at h1
    have h2 : 2 ^ (53 + (bits M + (nearP N M).toNat)) ≤ 2 ^ (bits N - 1 + (-nearP N M).toNat) := Nat.pow_le_pow_right (by omega) (by omega)
    omega
  · rw [Nat.div_lt_iff_lt_mul hd]
    have h1 : 2 ^ 55 * 2 ^ (bits M - 1 + (nearP N M).toNat) ≤ 36028797018963968 * nearD N M := Nat.mul_le_mul (by decide) (by omega)
    rw [← Nat.pow_add] at h1
    have h2 : 2 ^ (bits N + (-nearP N M).toNat) ≤ 2 ^ (55 + (bits M - 1 + (nearP N M).toNat)) := Nat.pow_le_pow_right (by omega) (by omega)
    omega

theorem roundV_two {N M Q R : Nat} (hq : N / M = Q) (hr : N % M = R) : roundV N M 2 = Q + if M < R + R ∨ R + R = M ∧ Q % 2 = 1 then 1 else 0 := by
  subst hq hr
  unfold roundV
  by_cases h : M < N % M + N % M ∨ N % M + N % M = M ∧ N / M % 2 = 1
  · rw [upB_true (.inr ⟨rfl, h⟩), if_pos h]; rfl
  · rw [upB_false (by rintro (⟨h1, _⟩ | ⟨_, h2⟩); · omega
                      · exact h h2), if_neg h]; rfl

theorem round1 {U D q r : Nat} (hq : U / D = q) (hr : U % D = r) (hD : 0 < D) : roundV U (D * 2 ^ 1) 2 = q / 2 + if q % 2 = 1 ∧ (0 < r ∨ q / 2 % 2 = 1) then 1 else 0 := by
  have hrl : r < D := by rw [← hr]; exact Nat.mod_lt _ hD
  rw [roundV_two (Q := q / 2) (R := r + D * (q % 2)) (by rw [← Nat.div_div_eq_div_mul, hq]) (by rw [Nat.mod_mul, hr, hq])]
  have h2 : q % 2 = 0 ∨ q % 2 = 1 := by omega
  have hc : (D * 2 ^ 1 < r + D * (q % 2) + (r + D * (q % 2)) ∨ r + D * (q % 2) + (r + D * (q % 2)) = D * 2 ^ 1 ∧ q / 2 % 2 = 1) ↔ (q % 2 = 1 ∧ (0 < r ∨ q / 2 % 2 = 1)) := by
    rcases h2 with h | h <;> rw [h] <;> omega
  simp only [hc]

theorem round2 {U D q r : Nat} (hq : U / D = q) (hr : U % D = r) (hD : 0 < D) : roundV U (D * 2 ^ 2) 2 = q / 4 + if q / 2 % 2 = 1 ∧ ((0 < r ∨ q % 2 = 1) ∨ q / 4 % 2 = 1) then 1 else 0 := by
  have hrl : r < D := by rw [← hr]; exact Nat.mod_lt _ hD
  rw [roundV_two (Q := q / 4) (R := r + D * (q % 4)) (by rw [← Nat.div_div_eq_div_mul, hq]) (by rw [Nat.mod_mul, hr, hq])]
  have h4 : q % 4 = 0 ∨ q % 4 = 1 ∨ q % 4 = 2 ∨ q % 4 = 3 := by omega
  have hc : (D * 2 ^ 2 < r + D * (q % 4) + (r + D * (q % 4)) ∨ r + D * (q % 4) + (r + D * (q % 4)) = D * 2 ^ 2 ∧ q / 4 % 2 = 1) ↔ (q / 2 % 2 = 1 ∧ ((0 < r ∨ q % 2 = 1) ∨ q / 4 % 2 = 1)) := by
    rcases h4 with h | h | h | h <;> rw [h] <;> omega
  simp only [hc]

theorem nearB_one {N M : Nat} {mo : Bool} (hN : 0 < N) (hM : 0 < M) (h : nearU N M / nearD N M < 18014398509481984) (hm : mo = decide (0 < nearU N M % nearD N M)) : nearB N M = finB (nearP N M) (nearU N M / nearD N M) mo := by
  have hk : nearK N M = 1 := by unfold nearK; rw [if_pos h]
  unfold nearB finB
  rw [if_neg (by omega), hk, round1 rfl rfl (near_size hN hM).2.2, hm]
  simp only [decide_eq_true_eq]
  congr 3
  omega

theorem nearB_two {N M : Nat} {mo : Bool} (hN : 0 < N) (hM : 0 < M) (h : 18014398509481984 ≤ nearU N M / nearD N M) (hm : mo = decide (0 < nearU N M % nearD N M)) :
    nearB N M = finB (nearP N M + 1) (nearU N M / nearD N M / 2) (mo || decide (nearU N M / nearD N M % 2 = 1)) := by
  have hk : nearK N M = 2 := by unfold nearK; rw [if_neg (by omega)]
  unfold nearB finB
  rw [if_neg (by omega), hk, round2 rfl rfl (near_size hN hM).2.2, hm]
  have e4 : nearU N M / nearD N M / 2 / 2 = nearU N M / nearD N M / 4 := by omega
  rw [e4]
  simp only [Bool.or_eq_true, decide_eq_true_eq]
  congr 3
  omega

/-- What holds at the head of Nearest's loop. -/
def NearRel (B : Nat) (n : Int) (m : Nat) (mo : Bool) : Prop :=
  9007199254740992 ≤ m ∧ m < 36028797018963968 ∧ (m < 18014398509481984 → B = finB n m mo) ∧ (18014398509481984 ≤ m → B = finB (n + 1) (m / 2) (mo || decide (m % 2 = 1)))

theorem NearRel.start {N M : Nat} (hN : 0 < N) (hM : 0 < M) : NearRel (nearB N M) (nearP N M) (nearU N M / nearD N M) (decide (0 < nearU N M % nearD N M)) :=
  ⟨(near_size hN hM).1, (near_size hN hM).2.1, fun h => nearB_one hN hM h rfl, fun h => nearB_two hN hM h rfl⟩

theorem NearRel.next {B m : Nat} {n : Int} {mo : Bool} (h : NearRel B n m mo) (hm : 18014398509481984 ≤ m) : NearRel B (n + 1) (m / 2) (mo || decide (m % 2 = 1)) := by
  obtain ⟨h1, h2, h3, h4⟩ := h
  exact ⟨by omega, by omega, fun _ => h4 hm, fun h => by omega⟩

theorem bits_le_of {N k : Nat} (h : N < 2 ^ k) : bits N ≤ k := by
  rcases Nat.eq_zero_or_pos N with rfl | hN
  · simp [bits]
  · have h1 := (bits_le hN).2
    have h0 := (bits_le hN).1
    rcases Nat.lt_or_ge k (bits N) with h2 | h2
    · have : 2 ^ k ≤ 2 ^ (bits N - 1) := Nat.pow_le_pow_right (by omega) (by omega)
      omega
    · exact h2

def NearInv (B : Nat) (nv mv ov : Value) : Prop :=
  ∃ (n : Int) (m : Nat) (mo : Bool), nv = .int .i64 n ∧ mv = .int .u64 (m : Int) ∧ ov = .bool mo ∧ -1000 ≤ n ∧ n ≤ 100 ∧ NearRel B n m mo ∧ (18014398509481984 ≤ m → n ≤ 50)

theorem finB_up {n : Int} {m : Nat} {mo : Bool} (h : m % 2 = 1) (h2 : mo = true ∨ m / 2 % 2 = 1) : finB n m mo = (n + 1075).toNat * 4503599627370496 + (m / 2 + 1) := by unfold finB; rw [if_pos ⟨h, h2⟩]
theorem finB_stay {n : Int} {m : Nat} {mo : Bool} (h : ¬ (m % 2 = 1 ∧ (mo = true ∨ m / 2 % 2 = 1))) : finB n m mo = (n + 1075).toNat * 4503599627370496 + m / 2 := by unfold finB; rw [if_neg h]; rfl

end Go.Proofs.Ytffibfnagoagcaa
