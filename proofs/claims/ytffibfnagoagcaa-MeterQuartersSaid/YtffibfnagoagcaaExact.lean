/- Contract: the document's Exact: a float as an odd number and a power of two. -/
import Derived.Test.YtffibfnagoagcaaOrd
namespace Go.Proofs.Ytffibfnagoagcaa
open Go.RowKit
set_option maxRecDepth 100000

theorem u64_in {n : Int} (h0 : 0 ≤ n) (h1 : n ≤ 18446744073709551615) : IntKind.u64.wrap n = n := by
  rw [IntKind.wrap_u64]; omega

theorem results_tmp4 {fn : Func} {t u v x : Tmp} (h : fn.results = #[.tmp t, .tmp u, .tmp v, .tmp x]) (tmps : Array Value) (P : Program) (w : World) :
    (results fn tmps).run P w = .ok (.tuple #[tmps.getD t undef, tmps.getD u undef, tmps.getD v undef, tmps.getD x undef]) w := by
  simp [results, h]

/-- How often a number is divided by two, f times at most. -/
def tz : Nat → Nat → Nat
  | 0, _ => 0
  | f + 1, m => if m % 2 = 0 then tz f (m / 2) + 1 else 0

theorem tz_spec (f m : Nat) (h0 : 0 < m) (hm : m < 2 ^ f) : m / 2 ^ tz f m % 2 = 1 ∧ m / 2 ^ tz f m * 2 ^ tz f m = m := by
  induction f generalizing m with
  | zero => omega
  | succ f ih =>
    unfold tz
    by_cases h : m % 2 = 0
    · rw [if_pos h]
      have h1 := ih (m / 2) (by omega) (by rw [Nat.pow_succ] at hm; omega)
      rw [Nat.pow_succ, Nat.mul_comm (2 ^ tz f (m / 2)) 2, ← Nat.div_div_eq_div_mul]
      refine ⟨h1.1, ?_⟩
      rw [Nat.mul_comm 2, ← Nat.mul_assoc, h1.2]
      omega
    · rw [if_neg h]
      simp
      omega

/-- The odd part, and the power, are one alone. -/
theorem odd_unique {a b i j : Nat} (ha : a % 2 = 1) (hb : b % 2 = 1) (h : a * 2 ^ i = b * 2 ^ j) : a = b ∧ i = j := by
  induction i generalizing j with
  | zero =>
    rcases j with _ | j
    · simp at h; exact ⟨h, rfl⟩
    · rw [Nat.pow_succ] at h
      have : b * (2 ^ j * 2) = 2 * (b * 2 ^ j) := by rw [← Nat.mul_assoc, Nat.mul_comm]
      omega
  | succ i ih =>
    rcases j with _ | j
    · rw [Nat.pow_succ] at h
      have : a * (2 ^ i * 2) = 2 * (a * 2 ^ i) := by rw [← Nat.mul_assoc, Nat.mul_comm]
      omega
    · rw [Nat.pow_succ, Nat.pow_succ, ← Nat.mul_assoc, ← Nat.mul_assoc] at h
      have h1 := ih (j := j) (by omega)
      exact ⟨h1.1, by omega⟩

def oddM (m : Nat) : Nat := m / 2 ^ tz 64 m
theorem oddM_of {m0 m k : Nat} (h : m0 = m * 2 ^ k) (ho : m % 2 = 1) (hm : m0 < 2 ^ 64) : oddM m0 = m ∧ tz 64 m0 = k := by
  have hp : 0 < m0 := by rw [h]; exact Nat.mul_pos (by omega) (Nat.pow_pos (by omega))
  have h1 := tz_spec 64 m0 hp hm
  exact odd_unique h1.1 ho (h1.2.trans h)

/-- What the document's Exact answers on bits, as a value. -/
def exactV (b : Nat) : Value :=
  if kindB b = 4 then .tuple #[.bool false, .int .u64 0, .int .i64 0, .int .i64 4]
  else if kindB b = 3 then .tuple #[.bool false, .int .u64 0, .int .i64 0, .int .i64 5]
  else if manS (szB b) = 0 then .tuple #[.bool (negB b), .int .u64 0, .int .i64 0, .int .i64 0]
  else .tuple #[.bool (negB b), .int .u64 (oddM (manS (szB b)) : Int), .int .i64 (expS (szB b) + tz 64 (manS (szB b))), .int .i64 0]

theorem manS_lt (s : Nat) : manS s < 9007199254740992 := by unfold manS; split <;> omega
theorem expS_bd {s : Nat} (h : s < 9223372036854775808) : -1074 ≤ expS s ∧ expS s ≤ 972 := by unfold expS; split <;> omega

def ExInv (m0 : Nat) (e0 : Int) (mv ev : Value) : Prop :=
  ∃ (m k : Nat), mv = .int .u64 (m : Int) ∧ ev = .int .i64 (e0 + k) ∧ m0 = m * 2 ^ k ∧ 0 < m ∧ m < 9007199254740992 ∧ k ≤ 64

theorem ex_step {m0 m k : Nat} (h : m0 = m * 2 ^ k) (he : m % 2 = 0) : m0 = m / 2 * 2 ^ (k + 1) := by
  rw [h, Nat.pow_succ, Nat.mul_comm (2 ^ k) 2, ← Nat.mul_assoc]
  congr 1
  omega
theorem ex_bound {m0 m k : Nat} (h : m0 = m * 2 ^ k) (h0 : 0 < m) (hm : m0 < 2 ^ 64) : k ≤ 63 := by
  rcases Nat.lt_or_ge k 64 with h1 | h1
  · omega
  · have h2 : 2 ^ 64 ≤ 2 ^ k := Nat.pow_le_pow_right (by omega) h1
    have h3 : 1 * 2 ^ k ≤ m * 2 ^ k := Nat.mul_le_mul_right _ h0
    omega

theorem hid_true {b : Bool} (h : b = true) : Hid (b = true) := h

end Go.Proofs.Ytffibfnagoagcaa
