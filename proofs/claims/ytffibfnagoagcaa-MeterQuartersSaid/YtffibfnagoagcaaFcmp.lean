/- Floats are compared by their numbers: the walk's laws; contracts of math: Abs, IsNaN, IsInf, normalize. -/
import Derived.Test.YtffibfnagoagcaaApart
import Derived.Laws.BitsAllLaws
namespace Go.Proofs.Ytffibfnagoagcaa
open Go.RowKit
set_option maxRecDepth 100000

def ordF (a b : Nat) : Option Ordering := Ieee.double.order a b
theorem ordF_fin {a b : Nat} (ha : a ≤ 18446744073709551615) (hb : b ≤ 18446744073709551615) (ha' : szB a < 9218868437227405312) (hb' : szB b < 9218868437227405312) : ordF a b = some (compare (VB a) (VB b)) := order_fin ha hb ha' hb'
theorem ordF_nan {a b : Nat} (h : 9218868437227405312 < szB a) : ordF a b = none := by
  obtain ⟨n, t, e⟩ := read_nan h
  unfold ordF Ieee.Format.order
  rw [e]; rfl
theorem ordF_nan' {a b : Nat} (h : 9218868437227405312 < szB b) : ordF a b = none := by
  obtain ⟨n, t, e⟩ := read_nan h
  unfold ordF Ieee.Format.order
  rw [e]
  cases Ieee.double.read a <;> rfl
theorem ordF_inf {a : Nat} (h : szB a = 9218868437227405312) : ordF a a = some .eq := by
  obtain ⟨n, e⟩ := read_inf h
  unfold ordF Ieee.Format.order
  rw [e]
  cases n <;> rfl
theorem ordF_self {a : Nat} (ha : a ≤ 18446744073709551615) (h : szB a ≤ 9218868437227405312) : ordF a a = some .eq := by
  rcases Nat.eq_or_lt_of_le h with h1 | h1
  · exact ordF_inf h1
  · rw [ordF_fin ha ha h1 h1, order_eq_iff.2 rfl]

/-- The order of floats that are not below nought: that of their bits. -/
theorem ordF_pos {a b : Nat} (ha : a < 9218868437227405312) (hb : b < 9218868437227405312) : ordF a b = some (compare (a : Int) (b : Int)) := by
  have ea : szB a = a := Nat.mod_eq_of_lt (by omega)
  have eb : szB b = b := Nat.mod_eq_of_lt (by omega)
  rw [ordF_fin (by omega) (by omega) (by rw [ea]; exact ha) (by rw [eb]; exact hb)]
  have na : negB a = false := decide_eq_false (by omega)
  have nb : negB b = false := decide_eq_false (by omega)
  rw [VB_pos na, VB_pos nb, ea, eb]
  congr 1
  rcases Nat.lt_trichotomy a b with h | h | h
  · rw [order_lt_iff.2 (by have := (WS_lt (s := a) (s' := b)).2 h; omega), order_lt_iff.2 (by omega)]
  · subst h; rw [order_eq_iff.2 rfl, order_eq_iff.2 rfl]
  · rw [order_gt_iff.2 (by have := (WS_lt (s := b) (s' := a)).2 h; omega), order_gt_iff.2 (by omega)]

theorem andNot63 {a : Nat} (h : a < 18446744073709551616) : Go.bits BinOp.andNot IntKind.u64 (a : Int) 9223372036854775808 = ((szB a : Nat) : Int) := by
  have h1 := u64_andNot_nat a 9223372036854775808 h (by omega)
  have e : a &&& (18446744073709551615 - 9223372036854775808) = a % 9223372036854775808 := Nat.and_two_pow_sub_one_eq_mod a 63
  rw [e] at h1
  exact h1

set_option maxHeartbeats 400000 in
theorem abs_any (w : World) (b : Nat) (hb : b ≤ 18446744073709551615) : Calls Try.prog 32 #[.float .f64 b] w fun e w' => e = .returned (.float .f64 (szB b)) ∧ w = w' := by
  have E1 := Lib.hid (andNot63 (a := b) (by omega))
  go_enter Try.func32, Try.ntmps32
  go_wp2
  rw [run_callFunc_extern Try.func58 (by kernel_rfl) (by kernel_rfl) (by kernel_rfl) (e := Extern.MathFloatBits.float64bits) (by kernel_rfl), run_f64bits]
  simp only [Result.andThen]
  rw [Oper.upon_value]
  go_wp2
  rw [E1.out, run_callFunc_extern Try.func41 (by kernel_rfl) (by kernel_rfl) (by kernel_rfl) (e := Extern.MathFloatBits.float64frombits) (by kernel_rfl), run_f64from]
  simp only [Result.andThen]
  rw [Oper.upon_value]
  go_wp2
  go_ret
  exact ⟨rfl, rfl⟩

/-- Is it a NaN? -/
def nanB (b : Nat) : Bool := decide (9218868437227405312 < szB b)
set_option maxHeartbeats 400000 in
theorem isNaN_any (w : World) (b : Nat) (hb : b ≤ 18446744073709551615) : Calls Try.prog 36 #[.float .f64 b] w fun e w' => e = .returned (.bool (nanB b)) ∧ w = w' := by
  by_cases h : 9218868437227405312 < szB b
  · have E : FloatKind.f64.format.order b b = none := ordF_nan h
    have HN : Hid (nanB b = true) := Lib.hid (decide_eq_true h)
    go_enter Try.func36, Try.ntmps36
    go_wp2
    go_ret
    exact ⟨ret_bool (by rw [HN.out]; rfl), rfl⟩
  · have E : FloatKind.f64.format.order b b = some .eq := ordF_self hb (by omega)
    have HN : Hid (nanB b = false) := Lib.hid (decide_eq_false h)
    go_enter Try.func36, Try.ntmps36
    go_wp2
    go_ret
    exact ⟨ret_bool (by rw [HN.out]), rfl⟩

theorem szB_szB (b : Nat) : szB (szB b) = szB b := Nat.mod_eq_of_lt (szB_lt b)
set_option maxHeartbeats 400000 in
theorem isInf0_fin (w : World) (b : Nat) (hb : b ≤ 18446744073709551615) (h : szB b < 9218868437227405312) : Calls Try.prog 59 #[.float .f64 b, .int .i64 0] w fun e w' => e = .returned (.bool false) ∧ w = w' := by
  have HA := Lib.hid (abs_any w b hb)
  have E : FloatKind.f64.format.order (szB b) 9218868437227405311 = some (compare ((szB b : Nat) : Int) ((9218868437227405311 : Nat) : Int)) := ordF_pos h (by omega)
  have h2 : ((szB b : Nat) : Int) ≤ ((9218868437227405311 : Nat) : Int) := by omega
  have E2 : FloatKind.f64.format.order (szB b) 9218868437227405311 = some .lt ∨ FloatKind.f64.format.order (szB b) 9218868437227405311 = some .eq := by
    rw [E]
    rcases Int.lt_or_eq_of_le h2 with h3 | h3
    · left; rw [order_lt_iff.2 h3]
    · right; rw [order_eq_iff.2 h3]
  clear E h2 h
  rcases E2 with E2 | E2
  all_goals
    go_enter Try.func59, Try.ntmps59
    go_wp2_with fail
    refine HA.out.mono ?_
    rintro e w1 ⟨rfl, rfl⟩
    go_wp2
    go_ret
    exact ⟨rfl, rfl⟩

end Go.Proofs.Ytffibfnagoagcaa
