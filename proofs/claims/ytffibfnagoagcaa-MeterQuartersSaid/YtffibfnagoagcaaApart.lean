/- Contracts of package real: apart, Kind, Minus, place, Order, Same, Least, Most. -/
import Derived.Test.YtffibfnagoagcaaIee
import Derived.Laws.Bits64b
namespace Go.Proofs.Ytffibfnagoagcaa
open Go.RowKit
set_option maxRecDepth 100000

theorem and2047 {a : Nat} (h : a < 18446744073709551616) : Go.bits BinOp.and IntKind.u64 (a : Int) 2047 = ((a % 2048 : Nat) : Int) := by
  have := bits_and_u64_nat a 2047 h (by omega)
  have e : a &&& 2047 = a % 2048 := Nat.and_two_pow_sub_one_eq_mod a 11
  rw [e] at this
  exact this
theorem and52 {a : Nat} (h : a < 18446744073709551616) : Go.bits BinOp.and IntKind.u64 (a : Int) 4503599627370495 = ((a % 4503599627370496 : Nat) : Int) := by
  have := bits_and_u64_nat a 4503599627370495 h (by omega)
  have e : a &&& 4503599627370495 = a % 4503599627370496 := Nat.and_two_pow_sub_one_eq_mod a 52
  rw [e] at this
  exact this
theorem and63 {a : Nat} (h : a < 18446744073709551616) : Go.bits BinOp.and IntKind.u64 (a : Int) 9223372036854775808 = if negB a then 9223372036854775808 else 0 := by
  have h1 := bits_and_u64_nat a 9223372036854775808 h (by omega)
  have e : a &&& 9223372036854775808 = if negB a then 9223372036854775808 else 0 := by
    have e2 : (9223372036854775808 : Nat) = 2 ^ 63 := by decide
    rw [e2]
    have hh : a &&& 2 ^ 63 = if a.testBit 63 then 2 ^ 63 else 0 := by
      apply Nat.eq_of_testBit_eq
      intro i
      rw [Nat.testBit_and, Nat.testBit_two_pow]
      by_cases hi : 63 = i
      · subst hi
        cases a.testBit 63 <;> decide
      · rw [decide_eq_false hi, Bool.and_false]
        split
        · rw [Nat.testBit_two_pow, decide_eq_false hi]
        · simp
    rw [hh, Nat.testBit_eq_decide_div_mod_eq]
    have hd : (a / 2 ^ 63 % 2 = 1) ↔ 9223372036854775808 ≤ a := by
      have : (2 : Nat) ^ 63 = 9223372036854775808 := by decide
      rw [this]; omega
    simp only [hd]
    rfl
  rw [e] at h1
  have h2 : ((9223372036854775808 : Nat) : Int) = 9223372036854775808 := rfl
  rw [← h2, h1]
  split <;> rfl

set_option maxHeartbeats 400000 in
theorem apart_any (w : World) (b : Nat) (hb : b ≤ 18446744073709551615) : Calls Try.prog 69 #[.float .f64 b] w fun e w' => e = .returned (.tuple #[.int .i64 ((szB b / 4503599627370496 : Nat) : Int), .int .u64 ((szB b % 4503599627370496 : Nat) : Int)]) ∧ w = w' := by
  have E1 := Lib.hid (and2047 (a := b / 4503599627370496) (by omega))
  have E2 := Lib.hid (and52 (a := b) (by omega))
  have F1 : Hid (b / 4503599627370496 % 2048 = szB b / 4503599627370496) := Lib.hid (by unfold szB; omega)
  have F2 : Hid (b % 4503599627370496 = szB b % 4503599627370496) := Lib.hid (by unfold szB; omega)
  go_enter Try.func69, Try.ntmps69
  go_wp2
  rw [run_callFunc_extern Try.func58 (by kernel_rfl) (by kernel_rfl) (by kernel_rfl) (e := Extern.MathFloatBits.float64bits) (by kernel_rfl), run_f64bits]
  simp only [Result.andThen]
  rw [Oper.upon_value]
  go_wp2
  go_ret2
  have h1 := E1.out
  have h2 := F1.out
  have h3 : ((b / 4503599627370496 : Nat) : Int) = (b : Int) / 4503599627370496 := by omega
  rw [h3] at h1
  exact ⟨ret_ii (by rw [h1, show wrap64 ((b / 4503599627370496 % 2048 : Nat) : Int) = ((b / 4503599627370496 % 2048 : Nat) : Int) by unfold wrap64; omega]; omega) (by rw [E2.out, F2.out]), rfl⟩

set_option maxHeartbeats 400000 in
theorem minusP_any (w : World) (b : Nat) (hb : b ≤ 18446744073709551615) : Calls Try.prog 81 #[.float .f64 b] w fun e w' => e = .returned (.bool (negB b)) ∧ w = w' := by
  have E1 := Lib.hid (and63 (a := b) (by omega))
  go_enter Try.func81, Try.ntmps81
  go_wp2
  rw [run_callFunc_extern Try.func58 (by kernel_rfl) (by kernel_rfl) (by kernel_rfl) (e := Extern.MathFloatBits.float64bits) (by kernel_rfl), run_f64bits]
  simp only [Result.andThen]
  rw [Oper.upon_value]
  go_wp2
  go_ret
  exact ⟨ret_bool (by rw [E1.out]; cases negB b <;> rfl), rfl⟩

set_option maxHeartbeats 800000 in
theorem kindP_s (w : World) (b s k : Nat) (hb : b ≤ 18446744073709551615) (hs : Hid (szB b = s)) (hl : s < 9223372036854775808) (hk : Hid (kindS s = k)) : Calls Try.prog 60 #[.float .f64 b] w fun e w' => e = .returned (.int .i64 (k : Int)) ∧ w = w' := by
  have C := apart_any w b hb
  rw [hs.out] at C
  have HC := Lib.hid C
  clear C
  have h : s = 0 ∨ (0 < s ∧ s < 4503599627370496) ∨ (4503599627370496 ≤ s ∧ s < 9218868437227405312) ∨ s = 9218868437227405312 ∨ 9218868437227405312 < s := by omega
  rcases h with h | h | h | h | h
  · have HK : Hid (kindS s = 0) := Lib.hid (by rw [h]; rfl)
    have q0 : (((s / 4503599627370496 : Nat) : Int) == 0) = true := beq_iff_eq.2 (by omega)
    have q1 : (((s % 4503599627370496 : Nat) : Int) == 0) = true := beq_iff_eq.2 (by omega)
    clear h
    generalize s / 4503599627370496 = x at *
    generalize s % 4503599627370496 = f at *
    go_enter Try.func60, Try.ntmps60
    go_wp2_with fail
    refine HC.out.mono ?_
    rintro e w1 ⟨rfl, rfl⟩
    go_wp2
    go_ret
    exact ⟨ret_int (by rw [← hk.out, HK.out]; rfl), rfl⟩
  · have HK : Hid (kindS s = 1) := Lib.hid (kindS_1 h.1 h.2)
    have q0 : (((s / 4503599627370496 : Nat) : Int) == 0) = true := beq_iff_eq.2 (by omega)
    have q1 : (((s % 4503599627370496 : Nat) : Int) == 0) = false := beq_eq_false_iff_ne.2 (by omega)
    clear h
    generalize s / 4503599627370496 = x at *
    generalize s % 4503599627370496 = f at *
    go_enter Try.func60, Try.ntmps60
    go_wp2_with fail
    refine HC.out.mono ?_
    rintro e w1 ⟨rfl, rfl⟩
    go_wp2
    go_ret
    exact ⟨ret_int (by rw [← hk.out, HK.out]; rfl), rfl⟩
  · have HK : Hid (kindS s = 2) := Lib.hid (kindS_2 h.1 h.2)
    have q0 : (((s / 4503599627370496 : Nat) : Int) == 0) = false := beq_eq_false_iff_ne.2 (by omega)
    have q1 : decide (((s / 4503599627370496 : Nat) : Int) < 2047) = true := decide_eq_true (by omega)
    clear h
    generalize s / 4503599627370496 = x at *
    generalize s % 4503599627370496 = f at *
    go_enter Try.func60, Try.ntmps60
    go_wp2_with fail
    refine HC.out.mono ?_
    rintro e w1 ⟨rfl, rfl⟩
    go_wp2
    go_ret
    exact ⟨ret_int (by rw [← hk.out, HK.out]; rfl), rfl⟩
  · have HK : Hid (kindS s = 3) := Lib.hid (kindS_3 h)
    have q0 : (((s / 4503599627370496 : Nat) : Int) == 0) = false := beq_eq_false_iff_ne.2 (by omega)
    have q1 : decide (((s / 4503599627370496 : Nat) : Int) < 2047) = false := decide_eq_false (by omega)
    have q2 : (((s % 4503599627370496 : Nat) : Int) == 0) = true := beq_iff_eq.2 (by omega)
    clear h
    generalize s / 4503599627370496 = x at *
    generalize s % 4503599627370496 = f at *
    go_enter Try.func60, Try.ntmps60
    go_wp2_with fail
    refine HC.out.mono ?_
    rintro e w1 ⟨rfl, rfl⟩
    go_wp2
    go_ret
    exact ⟨ret_int (by rw [← hk.out, HK.out]; rfl), rfl⟩
  · have HK : Hid (kindS s = 4) := Lib.hid (kindS_4 h)
    have q0 : (((s / 4503599627370496 : Nat) : Int) == 0) = false := beq_eq_false_iff_ne.2 (by omega)
    have q1 : decide (((s / 4503599627370496 : Nat) : Int) < 2047) = false := decide_eq_false (by omega)
    have q2 : (((s % 4503599627370496 : Nat) : Int) == 0) = false := beq_eq_false_iff_ne.2 (by omega)
    clear h
    generalize s / 4503599627370496 = x at *
    generalize s % 4503599627370496 = f at *
    go_enter Try.func60, Try.ntmps60
    go_wp2_with fail
    refine HC.out.mono ?_
    rintro e w1 ⟨rfl, rfl⟩
    go_wp2
    go_ret
    exact ⟨ret_int (by rw [← hk.out, HK.out]; rfl), rfl⟩

theorem kindP_any (w : World) (b : Nat) (hb : b ≤ 18446744073709551615) : Calls Try.prog 60 #[.float .f64 b] w fun e w' => e = .returned (.int .i64 (kindB b : Int)) ∧ w = w' :=
  kindP_s w b _ _ hb rfl (szB_lt b) rfl
end Go.Proofs.Ytffibfnagoagcaa
