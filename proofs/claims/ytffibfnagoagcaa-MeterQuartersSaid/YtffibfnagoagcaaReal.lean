/- Contracts: the document's answers on the bits of a float: size, Minus, Kind, Number. -/
import Derived.Test.YtffibfnagoagcaaMem
import Derived.WalkLawsBesides
namespace Go.Proofs.Ytffibfnagoagcaa
open Go.RowKit
set_option maxRecDepth 100000

/-- The bits without the sign. -/
def szB (b : Nat) : Nat := b % 9223372036854775808
/-- Is the sign bit set? -/
def negB (b : Nat) : Bool := decide (9223372036854775808 ≤ b)
/-- 0 nought, 1 subnormal, 2 normal, 3 infinite, 4 NaN: of bits without a sign. -/
def kindS (s : Nat) : Nat := if s = 0 then 0 else if s < 4503599627370496 then 1 else if s < 9218868437227405312 then 2 else if s = 9218868437227405312 then 3 else 4
def kindB (b : Nat) : Nat := kindS (szB b)
/-- m and e of a finite one, m times 2^e: of bits without a sign. -/
def manS (s : Nat) : Nat := if s / 4503599627370496 = 0 then s % 4503599627370496 else s % 4503599627370496 + 4503599627370496
def expS (s : Nat) : Int := if s / 4503599627370496 = 0 then -1074 else ((s / 4503599627370496 : Nat) : Int) - 1075

theorem szB_lt (b : Nat) : szB b < 9223372036854775808 := Nat.mod_lt _ (by omega)

theorem run_f64bits (P : Program) (w : World) (b : Nat) : (Extern.MathFloatBits.float64bits #[.float .f64 b]).run P w = .ok (.int .u64 (b : Int)) w := rfl
theorem run_f64from (P : Program) (w : World) (b : Nat) : (Extern.MathFloatBits.float64frombits #[.int .u64 (b : Int)]).run P w = .ok (.float .f64 b) w := rfl

set_option maxRecDepth 100000 in
set_option maxHeartbeats 400000 in
theorem size3_any (w : World) (b : Nat) (hb : b ≤ 18446744073709551615) : Calls Try.prog 62 #[.float .f64 b] w fun e w' => e = .returned (.int .u64 (szB b : Int)) ∧ w = w' := by
  go_enter Try.func62, Try.ntmps62
  go_wp2
  rw [run_callFunc_extern Try.func58 (by kernel_rfl) (by kernel_rfl) (by kernel_rfl) (e := Extern.MathFloatBits.float64bits) (by kernel_rfl), run_f64bits]
  simp only [Result.andThen]
  rw [Oper.upon_value]
  go_wp2
  go_ret
  exact ⟨ret_int (by unfold szB; omega), rfl⟩

set_option maxRecDepth 100000 in
set_option maxHeartbeats 400000 in
theorem minus3_any (w : World) (b : Nat) (hb : b ≤ 18446744073709551615) : Calls Try.prog 51 #[.float .f64 b] w fun e w' => e = .returned (.bool (negB b)) ∧ w = w' := by
  go_enter Try.func51, Try.ntmps51
  go_wp2
  rw [run_callFunc_extern Try.func58 (by kernel_rfl) (by kernel_rfl) (by kernel_rfl) (e := Extern.MathFloatBits.float64bits) (by kernel_rfl), run_f64bits]
  simp only [Result.andThen]
  rw [Oper.upon_value]
  go_wp2
  go_ret
  exact ⟨ret_bool (by unfold negB; simp; omega), rfl⟩

theorem kindS_0 : kindS 0 = 0 := rfl
theorem kindS_1 {s : Nat} (h0 : 1 ≤ s) (h : s < 4503599627370496) : kindS s = 1 := by unfold kindS; rw [if_neg (by omega), if_pos h]
theorem kindS_2 {s : Nat} (h0 : 4503599627370496 ≤ s) (h : s < 9218868437227405312) : kindS s = 2 := by unfold kindS; rw [if_neg (by omega), if_neg (by omega), if_pos h]
theorem kindS_3 {s : Nat} (h0 : s = 9218868437227405312) : kindS s = 3 := by unfold kindS; rw [if_neg (by omega), if_neg (by omega), if_neg (by omega), if_pos h0]
theorem kindS_4 {s : Nat} (h0 : 9218868437227405312 < s) : kindS s = 4 := by unfold kindS; rw [if_neg (by omega), if_neg (by omega), if_neg (by omega), if_neg (by omega)]

set_option maxRecDepth 100000 in
set_option maxHeartbeats 800000 in
theorem kind3_s (w : World) (b s : Nat) (k : Nat) (hb : b ≤ 18446744073709551615) (hs : Hid (szB b = s)) (hk : Hid (kindS s = k)) : Calls Try.prog 48 #[.float .f64 b] w fun e w' => e = .returned (.int .i64 (k : Int)) ∧ w = w' := by
  have C := size3_any w b hb
  rw [hs.out] at C
  have HC := Lib.hid C
  clear C
  rcases Nat.eq_zero_or_pos s with h0 | h0
  · subst h0
    go_enter Try.func48, Try.ntmps48
    go_wp2_with fail
    refine HC.out.mono ?_
    rintro e w1 ⟨rfl, rfl⟩
    go_wp2
    go_ret
    exact ⟨ret_int (by rw [← hk.out]; rfl), rfl⟩
  · rcases Nat.lt_or_ge s 4503599627370496 with h1 | h1
    · have HK := Lib.hid (kindS_1 h0 h1)
      have q0 : ((s : Int) == 0) = false := beq_eq_false_iff_ne.2 (by omega)
      have q1 : decide ((s : Int) < 4503599627370496) = true := decide_eq_true (by omega)
      have H0 := Lib.hid h0
      have H1 := Lib.hid h1
      clear h0 h1
      go_enter Try.func48, Try.ntmps48
      go_wp2_with fail
      refine HC.out.mono ?_
      rintro e w1 ⟨rfl, rfl⟩
      go_wp2
      go_ret
      exact ⟨ret_int (by rw [← hk.out, HK.out]; rfl), rfl⟩
    · rcases Nat.lt_or_ge s 9218868437227405312 with h2 | h2
      · have HK := Lib.hid (kindS_2 h1 h2)
        have q0 : ((s : Int) == 0) = false := beq_eq_false_iff_ne.2 (by omega)
        have q1 : decide ((s : Int) < 4503599627370496) = false := decide_eq_false (by omega)
        have q2 : decide ((s : Int) < 9218868437227405312) = true := decide_eq_true (by omega)
        clear h0 h1 h2
        go_enter Try.func48, Try.ntmps48
        go_wp2_with fail
        refine HC.out.mono ?_
        rintro e w1 ⟨rfl, rfl⟩
        go_wp2
        go_ret
        exact ⟨ret_int (by rw [← hk.out, HK.out]; rfl), rfl⟩
      · by_cases h3 : s = 9218868437227405312
        · have HK := Lib.hid (kindS_3 h3)
          clear h0 h1 h2
          subst h3
          go_enter Try.func48, Try.ntmps48
          go_wp2_with fail
          refine HC.out.mono ?_
          rintro e w1 ⟨rfl, rfl⟩
          go_wp2
          go_ret
          exact ⟨ret_int (by rw [← hk.out, HK.out]; rfl), rfl⟩
        · have h4 : 9218868437227405312 < s := by omega
          have HK := Lib.hid (kindS_4 h4)
          have q0 : ((s : Int) == 0) = false := beq_eq_false_iff_ne.2 (by omega)
          have q1 : decide ((s : Int) < 4503599627370496) = false := decide_eq_false (by omega)
          have q2 : decide ((s : Int) < 9218868437227405312) = false := decide_eq_false (by omega)
          have q3 : ((s : Int) == 9218868437227405312) = false := beq_eq_false_iff_ne.2 (by omega)
          clear h0 h1 h2 h3 h4
          go_enter Try.func48, Try.ntmps48
          go_wp2_with fail
          refine HC.out.mono ?_
          rintro e w1 ⟨rfl, rfl⟩
          go_wp2
          go_ret
          exact ⟨ret_int (by rw [← hk.out, HK.out]; rfl), rfl⟩

theorem kind3_any (w : World) (b : Nat) (hb : b ≤ 18446744073709551615) : Calls Try.prog 48 #[.float .f64 b] w fun e w' => e = .returned (.int .i64 (kindB b : Int)) ∧ w = w' :=
  kind3_s w b _ _ hb rfl rfl

end Go.Proofs.Ytffibfnagoagcaa
