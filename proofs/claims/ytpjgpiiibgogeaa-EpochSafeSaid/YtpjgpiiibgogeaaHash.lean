/- Contracts: sums of bytes, by the program and by the document. -/
import Derived.Test.YtpjgpiiibgogeaaArg
namespace Go.Proofs.Ytpjgpiiibgogeaa
open Go.RowKit
set_option maxRecDepth 100000

/-- One step of a sum. -/
def stepV (h b : Nat) : Nat := (h ^^^ b) * 1099511628211 % 18446744073709551616
/-- All steps. -/
def updV (h : Nat) (l : List Nat) : Nat := l.foldl stepV h
def sumV (l : List Nat) : Nat := updV 14695981039346656037 l

theorem stepV_lt (h b : Nat) : stepV h b < 18446744073709551616 := Nat.mod_lt _ (by omega)
theorem updV_lt {h : Nat} (hh : h < 18446744073709551616) (l : List Nat) : updV h l < 18446744073709551616 := by
  unfold updV
  induction l generalizing h with
  | nil => exact hh
  | cons b l ih => exact ih (stepV_lt _ _)
theorem sumV_lt (l : List Nat) : sumV l < 18446744073709551616 := updV_lt (by omega) l
theorem updV_append (h : Nat) (l m : List Nat) : updV h (l ++ m) = updV (updV h l) m := by unfold updV; rw [List.foldl_append]
theorem updV_take (h : Nat) (l : List Nat) (k : Nat) (hk : k < l.length) : updV h (l.take (k + 1)) = stepV (updV h (l.take k)) (l.getD k 0) := by
  rw [Mth.take_succ_getD l k hk, updV_append]
  generalize updV h (l.take k) = g
  generalize l.getD k 0 = d
  unfold updV
  rw [List.foldl_cons, List.foldl_nil]

theorem xor_split (h b : Nat) (hb : b < 256) : h ^^^ b = h / 256 * 256 + (h % 256 ^^^ b) := by
  have h1 : (h ^^^ b) / 256 = h / 256 := by
    rw [show (256 : Nat) = 2 ^ 8 by rfl, ← Nat.shiftRight_eq_div_pow, ← Nat.shiftRight_eq_div_pow, Nat.shiftRight_xor_distrib]
    have : b >>> 8 = 0 := by rw [Nat.shiftRight_eq_div_pow]; exact Nat.div_eq_of_lt hb
    rw [this, Nat.xor_zero]
  have h2 : (h ^^^ b) % 256 = h % 256 ^^^ b := by
    rw [show (256 : Nat) = 2 ^ 8 by rfl, Nat.xor_mod_two_pow, Nat.mod_eq_of_lt (a := b) hb]
  have := Nat.div_add_mod (h ^^^ b) 256
  omega

theorem and_low (x : Nat) (hx : x < 18446744073709551616) : bits .and .u64 (x : Int) 4294967295 = ((x % 4294967296 : Nat) : Int) := by
  have h := u64_and_nat x 4294967295 hx (by omega)
  rw [show (4294967295 : Nat) = 2 ^ 32 - 1 by rfl, Nat.and_two_pow_sub_one_eq_mod] at h
  exact h

/-- A product modulo 2^64 out of halves. -/
theorem halves (x : Nat) : x * 1099511628211 % 18446744073709551616 =
    (x % 4294967296 * 435 + (x / 4294967296 * 435 + x % 4294967296 * 256) * 4294967296 % 18446744073709551616) % 18446744073709551616 := by omega

theorem ret_u64 {k : IntKind} {a b : Nat} (h : a = b) : Ending.returned (.int k (a : Int)) = .returned (.int k (b : Int)) := by rw [h]

def UpdInv (w : World) (h0 : Nat) (zs : List Nat) (n : Nat) (hv iv : Value) : Prop :=
  ∃ k h : Nat, k ≤ n ∧ iv = .int .i64 (k : Int) ∧ hv = .int .u64 (h : Int) ∧ h = updV h0 (zs.take k) ∧ h < 18446744073709551616 ∧ w = w

end Go.Proofs.Ytpjgpiiibgogeaa
