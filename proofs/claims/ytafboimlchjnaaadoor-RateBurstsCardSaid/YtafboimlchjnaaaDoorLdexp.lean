/- Contract of math.Ldexp where the number is normal and so is the answer, and where it has an exact answer that is subnormal. -/
import Derived.Test.YtafboimlchjnaaaDoorFcmp
import Derived.Test.YtafboimlchjnaaaDoorWMath
namespace Go.Proofs.YtafboimlchjnaaaDoor
open Go.RowKit
set_option maxRecDepth 100000

theorem ord_zero {b : Nat} (h : b < 9218868437227405312) (h0 : 0 < b) : FloatKind.f64.format.order b 0 = some .gt := by
  have E : FloatKind.f64.format.order b 0 = some (compare (b : Int) ((0 : Nat) : Int)) := ordF_pos h (by omega)
  rw [E, order_gt_iff.2 (by omega)]
theorem andNotExp {b : Nat} (h : b < 9223372036854775808) : Go.bits BinOp.andNot IntKind.u64 (b : Int) 9218868437227405312 = ((b % 4503599627370496 : Nat) : Int) := by
  have h1 := u64_andNot_nat b 9218868437227405312 (by omega) (by omega)
  have e : b &&& (18446744073709551615 - 9218868437227405312) = b % 4503599627370496 := by
    apply Nat.eq_of_testBit_eq
    intro i
    have e1 : (18446744073709551615 - 9218868437227405312 : Nat) = 9223372036854775808 + 4503599627370495 := by omega
    have e2 : (4503599627370496 : Nat) = 2 ^ 52 := by decide
    rw [Nat.testBit_and, e1, e2, Nat.testBit_mod_two_pow]
    rcases Nat.lt_or_ge i 63 with hi | hi
    · have e3 : (9223372036854775808 + 4503599627370495 : Nat).testBit i = decide (i < 52) := by
        have : ∀ j : Fin 63, (9223372036854775808 + 4503599627370495 : Nat).testBit j.val = decide (j.val < 52) := by decide
        exact this ⟨i, hi⟩
      rw [e3, Bool.and_comm]
    · have e4 : b.testBit i = false := Nat.testBit_lt_two_pow (Nat.lt_of_lt_of_le (by omega : b < 2 ^ 63) (Nat.pow_le_pow_right (by omega) hi))
      rw [e4]; simp
  rw [e] at h1
  exact h1
theorem orExp {f x : Nat} (hf : f < 4503599627370496) (hx : x ≤ 2047) : Go.bits BinOp.or IntKind.u64 (f : Int) ((x * 4503599627370496 : Nat) : Int) = ((x * 4503599627370496 + f : Nat) : Int) := by
  have h1 := bits_or_u64_nat f (x * 4503599627370496) (by omega) (by omega)
  have h2 := or_add (a := x) (b := f) (i := 52) (by omega)
  rw [show (2 : Nat) ^ 52 = 4503599627370496 by decide] at h2
  rw [h2] at h1
  exact h1
theorem and2047i {a : Nat} (h : a ≤ 2047) : Go.bits BinOp.and IntKind.i64 (a : Int) 2047 = (a : Int) := by
  have : ∀ a : Fin 2048, Go.bits BinOp.and IntKind.i64 (a.val : Int) 2047 = (a.val : Int) := by decide +kernel
  exact this ⟨a, by omega⟩

set_option maxHeartbeats 1600000 in
theorem ldexp_norm (w : World) (b x f y r : Nat) (e : Int) (hx : b / 4503599627370496 = x) (hf : b % 4503599627370496 = f) (hx1 : 1 ≤ x) (hx2 : x ≤ 2046) (he1 : -4000 ≤ e) (he2 : e ≤ 4000) (hy : (x : Int) + e = y) (hy1 : 1 ≤ y) (hy2 : y ≤ 2046) (hr : y * 4503599627370496 + f = r) :
    Calls Tryd.prog 74 #[.float .f64 b, .int .i64 e] w fun e w' => e = .returned (.float .f64 r) ∧ w = w' := by
  have hb : b < 9218868437227405312 := by omega
  have hs : szB b = b := Nat.mod_eq_of_lt (by omega)
  have O1 := ord_zero hb (by omega)
  have HI := Lib.hid (isInf0_fin w b (by omega) (by omega))
  have HN := isNaN_any w b (by omega)
  rw [show nanB b = false from decide_eq_false (by omega)] at HN
  have HNN := Lib.hid HN
  have HZ := Lib.hid (normalize_norm w b (by omega) (by omega) (by omega))
  have E1 : (b : Int) / 4503599627370496 = (x : Int) := by omega
  have E2 := and2047i (a := x) (by omega)
  have E3 := andNotExp (b := b) (by omega)
  rw [hf] at E3
  have E4 : Go.bits BinOp.or IntKind.u64 (f : Int) ((y : Int) * 4503599627370496) = (r : Int) := by
    have := orExp (f := f) (x := y) (by omega) (by omega)
    rw [hr] at this
    rw [← this]; rfl
  have E5 : e + ((x : Int) - 1023) = (y : Int) - 1023 := by omega
  have hr0 : r < 9218868437227405312 := by omega
  have HM : Hid (FloatKind.f64.format.mul 4607182418800017408 r = some r) := Lib.hid (mul_one_S hr0 (by omega))
  have t1 : (0 : Int) ≤ y := by omega
  have t2 : (y : Int) ≤ 2046 := by omega
  have t3 : (1 : Int) ≤ y := by omega
  clear HN hx hf hx1 hx2 hy hy1 hy2 hr hb hs hr0
  go_enter Tryd.func74, Tryd.ntmps74
  go_wp2_with fail
  refine HI.out.mono ?_
  rintro e w1 ⟨rfl, rfl⟩
  go_wp2_with fail
  refine HNN.out.mono ?_
  rintro e w1 ⟨rfl, rfl⟩
  go_wp2_with fail
  refine HZ.out.mono ?_
  rintro e w1 ⟨rfl, rfl⟩
  go_wp2_with fail
  rw [run_callFunc_extern Tryd.func57 (by kernel_rfl) (by kernel_rfl) (by kernel_rfl) (e := Extern.MathFloatBits.float64bits) (by kernel_rfl), run_f64bits]
  simp only [Result.andThen]
  rw [Oper.upon_value]
  go_wp2_with fail
  rw [run_callFunc_extern Tryd.func52 (by kernel_rfl) (by kernel_rfl) (by kernel_rfl) (e := Extern.MathFloatBits.float64frombits) (by kernel_rfl), run_f64from]
  simp only [Result.andThen]
  rw [Oper.upon_value]
  have HM2 := fun w => run_float_arith (P := Tryd.prog) w .mul 23 .f64 _ _ _ HM.out
  go_wp2
  go_ret
  exact ⟨rfl, rfl⟩
set_option maxHeartbeats 1600000 in
theorem ldexp_sub (w : World) (b x f y r s : Nat) (e : Int) (hx : b / 4503599627370496 = x) (hf : b % 4503599627370496 = f) (hx1 : 1 ≤ x) (hx2 : x ≤ 2046) (he1 : -4000 ≤ e) (he2 : e ≤ 4000) (hy : (x : Int) + e + 53 = y) (hy1 : 1 ≤ y) (hy2 : y ≤ 53) (hr : y * 4503599627370496 + f = r) (HM : Hid (FloatKind.f64.format.mul 4368491638549381120 r = some s)) :
    Calls Tryd.prog 74 #[.float .f64 b, .int .i64 e] w fun e w' => e = .returned (.float .f64 s) ∧ w = w' := by
  have hb : b < 9218868437227405312 := by omega
  have hs : szB b = b := Nat.mod_eq_of_lt (by omega)
  have O1 := ord_zero hb (by omega)
  have HI := Lib.hid (isInf0_fin w b (by omega) (by omega))
  have HN := isNaN_any w b (by omega)
  rw [show nanB b = false from decide_eq_false (by omega)] at HN
  have HNN := Lib.hid HN
  have HZ := Lib.hid (normalize_norm w b (by omega) (by omega) (by omega))
  have E1 : (b : Int) / 4503599627370496 = (x : Int) := by omega
  have E2 := and2047i (a := x) (by omega)
  have E3 := andNotExp (b := b) (by omega)
  rw [hf] at E3
  have E4 : Go.bits BinOp.or IntKind.u64 (f : Int) (((y : Int) - 1076 + 53 + 1023) * 4503599627370496) = (r : Int) := by
    rw [show (y : Int) - 1076 + 53 + 1023 = (y : Int) by omega]
    have := orExp (f := f) (x := y) (by omega) (by omega)
    rw [hr] at this
    rw [← this]; rfl
  have E5 : e + ((x : Int) - 1023) = (y : Int) - 1076 := by omega
  have t1 : (0 : Int) ≤ y := by omega
  have t2 : (y : Int) ≤ 53 := by omega
  have t3 : (1 : Int) ≤ y := by omega
  clear HN hx hf hx1 hx2 hy hy1 hy2 hr hb hs
  go_enter Tryd.func74, Tryd.ntmps74
  go_wp2_with fail
  refine HI.out.mono ?_
  rintro e w1 ⟨rfl, rfl⟩
  go_wp2_with fail
  refine HNN.out.mono ?_
  rintro e w1 ⟨rfl, rfl⟩
  go_wp2_with fail
  refine HZ.out.mono ?_
  rintro e w1 ⟨rfl, rfl⟩
  go_wp2_with fail
  rw [run_callFunc_extern Tryd.func57 (by kernel_rfl) (by kernel_rfl) (by kernel_rfl) (e := Extern.MathFloatBits.float64bits) (by kernel_rfl), run_f64bits]
  simp only [Result.andThen]
  rw [Oper.upon_value]
  go_wp2_with fail
  rw [run_callFunc_extern Tryd.func52 (by kernel_rfl) (by kernel_rfl) (by kernel_rfl) (e := Extern.MathFloatBits.float64frombits) (by kernel_rfl), run_f64from]
  simp only [Result.andThen]
  rw [Oper.upon_value]
  have HM2 := fun w => run_float_arith (P := Tryd.prog) w .mul 23 .f64 _ _ _ HM.out
  go_wp2
  go_ret
  exact ⟨rfl, rfl⟩

set_option maxHeartbeats 400000 in
theorem ldexp_to (w : World) (b r : Nat) (e : Int) (h : Calls Tryd.prog 74 #[.float .f64 b, .int .i64 e] w fun e w' => e = .returned (.float .f64 r) ∧ w = w') :
    Calls Tryd.prog 38 #[.float .f64 b, .int .i64 e] w fun e w' => e = .returned (.float .f64 r) ∧ w = w' := by
  have H := Lib.hid h
  clear h
  go_enter Tryd.func38, Tryd.ntmps38
  go_wp2_with fail
  refine H.out.mono ?_
  rintro e w1 ⟨rfl, rfl⟩
  go_wp2
  go_ret
  exact ⟨rfl, rfl⟩
end Go.Proofs.YtafboimlchjnaaaDoor
