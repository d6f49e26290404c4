/- Contracts of package real: Order, Same, Least, Most. -/
import Derived.Test.YtffibfnagoagcaaWMath
import Derived.Laws.BitsAllLaws
namespace Go.Proofs.Ytffibfnagoagcaa
open Go.RowKit
set_option maxRecDepth 100000

def cmpW (x y : Nat) : Int := if x < y then -1 else if y < x then 1 else 0

set_option maxHeartbeats 400000 in
theorem cmpU_lt (w : World) (x y : Nat) (h : x < y) : Calls Try.prog 66 #[.int .u64 (x : Int), .int .u64 (y : Int)] w fun e w' => e = .returned (.int .i64 (-1)) ∧ w = w' := by
  have q1 : decide ((x : Int) < (y : Int)) = true := decide_eq_true (by omega)
  have q1' : decide (x < y) = true := decide_eq_true (by omega)
  have q2 : decide ((y : Int) < (x : Int)) = false := decide_eq_false (by omega)
  have q2' : decide (y < x) = false := decide_eq_false (by omega)
  clear h
  go_enter Try.func66, Try.ntmps66
  go_wp2
  go_ret
  exact ⟨rfl, rfl⟩

set_option maxHeartbeats 400000 in
theorem cmpU_gt (w : World) (x y : Nat) (h : y < x) : Calls Try.prog 66 #[.int .u64 (x : Int), .int .u64 (y : Int)] w fun e w' => e = .returned (.int .i64 (1)) ∧ w = w' := by
  have q1 : decide ((x : Int) < (y : Int)) = false := decide_eq_false (by omega)
  have q1' : decide (x < y) = false := decide_eq_false (by omega)
  have q2 : decide ((y : Int) < (x : Int)) = true := decide_eq_true (by omega)
  have q2' : decide (y < x) = true := decide_eq_true (by omega)
  clear h
  go_enter Try.func66, Try.ntmps66
  go_wp2
  go_ret
  exact ⟨rfl, rfl⟩

set_option maxHeartbeats 400000 in
theorem cmpU_eq (w : World) (x y : Nat) (h : x = y) : Calls Try.prog 66 #[.int .u64 (x : Int), .int .u64 (y : Int)] w fun e w' => e = .returned (.int .i64 (0)) ∧ w = w' := by
  have q1 : decide ((x : Int) < (y : Int)) = false := decide_eq_false (by omega)
  have q1' : decide (x < y) = false := decide_eq_false (by omega)
  have q2 : decide ((y : Int) < (x : Int)) = false := decide_eq_false (by omega)
  have q2' : decide (y < x) = false := decide_eq_false (by omega)
  clear h
  go_enter Try.func66, Try.ntmps66
  go_wp2
  go_ret
  exact ⟨rfl, rfl⟩

theorem cmpU_any (w : World) (x y : Nat) : Calls Try.prog 66 #[.int .u64 (x : Int), .int .u64 (y : Int)] w fun e w' => e = .returned (.int .i64 (cmpW x y)) ∧ w = w' := by
  unfold cmpW
  rcases Nat.lt_trichotomy x y with h | h | h
  · rw [if_pos h]; exact cmpU_lt w x y h
  · rw [if_neg (by omega), if_neg (by omega)]; exact cmpU_eq w x y h
  · rw [if_neg (by omega), if_pos h]; exact cmpU_gt w x y h

/-- The program's place of some bits. -/
def plcB (b : Nat) : Nat := if kindB b = 4 then 18446744073709551615 else if negB b then 18446744073709551615 - b else b + 9223372036854775808
theorem plc_idx {a b : Nat} (ha : a ≤ 18446744073709551615) (hb : b ≤ 18446744073709551615) : cmpW (plcB a) (plcB b) = ordB a b := by
  have key : ∀ c, c ≤ 18446744073709551615 → (kindB c = 4 ∧ plcB c = 18446744073709551615 ∧ idxB c = 18437736874454810626) ∨ (plcB c = idxB c + 4503599627370495 ∧ idxB c ≤ 18437736874454810625) := fun c hc => by
    unfold plcB
    by_cases h : kindB c = 4
    · left; rw [if_pos h, idxB_nan h]; exact ⟨h, rfl, rfl⟩
    · right
      have hs := kindS_ne4 h
      rw [if_neg h]
      rcases hn : negB c with _ | _
      · rw [idxB_pos h hn]
        have : szB c = c := by
          unfold negB at hn
          have := of_decide_eq_false hn
          exact Nat.mod_eq_of_lt (by omega)
        simp only [Bool.false_eq_true, if_false]
        omega
      · rw [idxB_neg h hn, if_pos rfl]
        unfold negB at hn
        have h9 := of_decide_eq_true hn
        have h8 : szB c = c - 9223372036854775808 := by unfold szB; omega
        rw [h8] at hs ⊢
        omega
  have ka := key a ha
  have kb := key b hb
  unfold cmpW ordB
  rcases ka with ⟨_, a1, a2⟩ | ⟨a1, a2⟩ <;> rcases kb with ⟨_, b1, b2⟩ | ⟨b1, b2⟩ <;> rw [a1, b1] <;> (try rw [a2]) <;> (try rw [b2]) <;> (repeat' split) <;> omega

theorem or63 {b : Nat} (h : b < 9223372036854775808) : Go.bits BinOp.or IntKind.u64 (b : Int) 9223372036854775808 = ((b + 9223372036854775808 : Nat) : Int) := by
  have h1 := bits_or_u64_nat b 9223372036854775808 (by omega) (by omega)
  have h2 : b ||| 9223372036854775808 = b + 9223372036854775808 := by
    have h3 := or_add (a := 1) (b := b) (i := 63) (by omega)
    rw [show 1 * (2 : Nat) ^ 63 = 9223372036854775808 by decide] at h3
    rw [h3]; omega
  rw [h2] at h1
  exact h1

theorem xorMax {b : Nat} (h : b < 18446744073709551616) : Go.bits BinOp.xor IntKind.u64 IntKind.u64.max (b : Int) = ((18446744073709551615 - b : Nat) : Int) := by
  have h1 := u64_xor_nat 18446744073709551615 b (by omega) h
  have h2 : 18446744073709551615 ^^^ b = 18446744073709551615 - b := by
    apply Nat.eq_of_testBit_eq
    intro i
    have e1 : 18446744073709551615 - b = 2 ^ 64 - (b + 1) := by omega
    have e2 : (18446744073709551615 : Nat) = 2 ^ 64 - (0 + 1) := by omega
    rw [e1, Nat.testBit_two_pow_sub_succ (by omega), Nat.testBit_xor, e2, Nat.testBit_two_pow_sub_succ (by omega)]
    rcases Nat.lt_or_ge i 64 with hi | hi
    · rw [decide_eq_true hi]; simp
    · have : b.testBit i = false := Nat.testBit_lt_two_pow (Nat.lt_of_lt_of_le (by omega : b < 2 ^ 64) (Nat.pow_le_pow_right (by omega) hi))
      rw [this, decide_eq_false (by omega)]; simp
  rw [h2] at h1
  exact h1

set_option maxHeartbeats 800000 in
theorem place_any (w : World) (b : Nat) (hb : b ≤ 18446744073709551615) : Calls Try.prog 67 #[.float .f64 b] w fun e w' => e = .returned (.int .u64 (plcB b : Int)) ∧ w = w' := by
  have HC := Lib.hid (kindP_any w b hb)
  have HM := Lib.hid (minusP_any w b hb)
  by_cases h4 : kindB b = 4
  · have HI : Hid (plcB b = 18446744073709551615) := Lib.hid (by unfold plcB; rw [if_pos h4])
    rw [h4] at HC
    clear h4
    go_enter Try.func67, Try.ntmps67
    go_wp2_with fail
    refine HC.out.mono ?_
    rintro e w1 ⟨rfl, rfl⟩
    go_wp2
    go_ret
    exact ⟨ret_int (by rw [HI.out]; rfl), rfl⟩
  · have q0 : ((kindB b : Int) == 4) = false := beq_eq_false_iff_ne.2 (by omega)
    rcases hn : negB b with _ | _
    · have hlt := of_decide_eq_false hn
      have HI : Hid (plcB b = b + 9223372036854775808) := Lib.hid (by unfold plcB; rw [if_neg h4, hn]; rfl)
      have EO := Lib.hid (or63 (b := b) (by omega))
      rw [hn] at HM
      clear h4 hn hlt
      generalize kindB b = k at *
      go_enter Try.func67, Try.ntmps67
      go_wp2_with fail
      refine HC.out.mono ?_
      rintro e w1 ⟨rfl, rfl⟩
      go_wp2_with fail
      rw [run_callFunc_extern Try.func58 (by kernel_rfl) (by kernel_rfl) (by kernel_rfl) (e := Extern.MathFloatBits.float64bits) (by kernel_rfl), run_f64bits]
      simp only [Result.andThen]
      rw [Oper.upon_value]
      go_wp2_with fail
      refine HM.out.mono ?_
      rintro e w1 ⟨rfl, rfl⟩
      go_wp2
      go_ret
      exact ⟨ret_int (by rw [HI.out, EO.out]), rfl⟩
    · have hlt := of_decide_eq_true hn
      have HI : Hid (plcB b = 18446744073709551615 - b) := Lib.hid (by unfold plcB; rw [if_neg h4, hn]; rfl)
      rw [hn] at HM
      clear h4 hn
      generalize kindB b = k at *
      go_enter Try.func67, Try.ntmps67
      go_wp2_with fail
      refine HC.out.mono ?_
      rintro e w1 ⟨rfl, rfl⟩
      go_wp2_with fail
      rw [run_callFunc_extern Try.func58 (by kernel_rfl) (by kernel_rfl) (by kernel_rfl) (e := Extern.MathFloatBits.float64bits) (by kernel_rfl), run_f64bits]
      simp only [Result.andThen]
      rw [Oper.upon_value]
      go_wp2_with fail
      refine HM.out.mono ?_
      rintro e w1 ⟨rfl, rfl⟩
      go_wp2
      go_ret
      exact ⟨ret_int (by rw [HI.out, xorMax (by omega)]), rfl⟩

set_option maxHeartbeats 400000 in
theorem orderP_any (w : World) (a b : Nat) (ha : a ≤ 18446744073709551615) (hb : b ≤ 18446744073709551615) : Calls Try.prog 55 #[.float .f64 a, .float .f64 b] w fun e w' => e = .returned (.int .i64 (ordB a b)) ∧ w = w' := by
  have HA := Lib.hid (place_any w a ha)
  have HB := Lib.hid (place_any w b hb)
  have HC := Lib.hid (cmpU_any w (plcB a) (plcB b))
  rw [plc_idx ha hb] at HC
  generalize plcB a = i at *
  generalize plcB b = j at *
  go_enter Try.func55, Try.ntmps55
  go_wp2_with fail
  refine HA.out.mono ?_
  rintro e w1 ⟨rfl, rfl⟩
  go_wp2_with fail
  refine HB.out.mono ?_
  rintro e w1 ⟨rfl, rfl⟩
  go_wp2_with fail
  refine HC.out.mono ?_
  rintro e w1 ⟨rfl, rfl⟩
  go_wp2
  go_ret
  exact ⟨rfl, rfl⟩

theorem ordB_bd (a b : Nat) : ordB a b = -1 ∨ ordB a b = 0 ∨ ordB a b = 1 := by
  unfold ordB
  split
  · exact .inl rfl
  · split
    · exact .inr (.inr rfl)
    · exact .inr (.inl rfl)
theorem same_ord (a b : Nat) : sameB a b = (ordB a b == 0) := by
  unfold sameB ordB
  rw [Bool.eq_iff_iff, beq_iff_eq, beq_iff_eq]
  split
  · omega
  · split <;> omega
set_option maxHeartbeats 400000 in
theorem sameP_any (w : World) (a b : Nat) (ha : a ≤ 18446744073709551615) (hb : b ≤ 18446744073709551615) : Calls Try.prog 68 #[.float .f64 a, .float .f64 b] w fun e w' => e = .returned (.bool (sameB a b)) ∧ w = w' := by
  have HC := Lib.hid (orderP_any w a b ha hb)
  have HS := Lib.hid (same_ord a b)
  generalize ordB a b = o at *
  go_enter Try.func68, Try.ntmps68
  go_wp2_with fail
  refine HC.out.mono ?_
  rintro e w1 ⟨rfl, rfl⟩
  go_wp2
  go_ret
  exact ⟨ret_bool (by rw [HS.out]), rfl⟩

set_option maxHeartbeats 400000 in
theorem leastP_nan (w : World) (a b : Nat) (hb : b ≤ 18446744073709551615) (h1 : kindB b = 4) : Calls Try.prog 39 #[.float .f64 a, .float .f64 b] w fun e w' => e = .returned (.float .f64 a) ∧ w = w' := by
  have HB := Lib.hid (kindP_any w b hb)
  rw [h1] at HB
  clear h1
  go_enter Try.func39, Try.ntmps39
  go_wp2_with fail
  refine HB.out.mono ?_
  rintro e w1 ⟨rfl, rfl⟩
  go_wp2
  go_ret
  exact ⟨rfl, rfl⟩

set_option maxHeartbeats 400000 in
theorem leastP_xnan (w : World) (a b : Nat) (ha : a ≤ 18446744073709551615) (hb : b ≤ 18446744073709551615) (h1 : kindB b ≠ 4) (h2 : kindB a = 4) : Calls Try.prog 39 #[.float .f64 a, .float .f64 b] w fun e w' => e = .returned (.float .f64 b) ∧ w = w' := by
  have HB := Lib.hid (kindP_any w b hb)
  have HA := Lib.hid (kindP_any w a ha)
  have q1 : ((kindB b : Int) == 4) = false := beq_eq_false_iff_ne.2 (by omega)
  have q1' : ((kindB b : Int) != 4) = true := bne_iff_ne.2 (by omega)
  rw [h2] at HA
  clear h1 h2
  generalize kindB b = kb at *
  go_enter Try.func39, Try.ntmps39
  go_wp2_with fail
  refine HB.out.mono ?_
  rintro e w1 ⟨rfl, rfl⟩
  go_wp2_with fail
  refine HA.out.mono ?_
  rintro e w1 ⟨rfl, rfl⟩
  go_wp2
  go_ret
  exact ⟨rfl, rfl⟩

set_option maxHeartbeats 400000 in
theorem leastP_le (w : World) (a b : Nat) (ha : a ≤ 18446744073709551615) (hb : b ≤ 18446744073709551615) (h1 : kindB b ≠ 4) (h2 : kindB a ≠ 4) (h3 : decide (ordB a b ≤ 0) = true) : Calls Try.prog 39 #[.float .f64 a, .float .f64 b] w fun e w' => e = .returned (.float .f64 a) ∧ w = w' := by
  have HB := Lib.hid (kindP_any w b hb)
  have HA := Lib.hid (kindP_any w a ha)
  have q1 : ((kindB b : Int) == 4) = false := beq_eq_false_iff_ne.2 (by omega)
  have q1' : ((kindB b : Int) != 4) = true := bne_iff_ne.2 (by omega)
  have q2 : ((kindB a : Int) != 4) = true := bne_iff_ne.2 (by omega)
  have q2' : ((kindB a : Int) == 4) = false := beq_eq_false_iff_ne.2 (by omega)
  have HO := Lib.hid (orderP_any w a b ha hb)
  clear h1 h2
  generalize kindB b = kb at *
  generalize kindB a = ka at *
  generalize ordB a b = o at *
  go_enter Try.func39, Try.ntmps39
  go_wp2_with fail
  refine HB.out.mono ?_
  rintro e w1 ⟨rfl, rfl⟩
  go_wp2_with fail
  refine HA.out.mono ?_
  rintro e w1 ⟨rfl, rfl⟩
  go_wp2_with fail
  refine HO.out.mono ?_
  rintro e w1 ⟨rfl, rfl⟩
  go_wp2
  go_ret
  exact ⟨rfl, rfl⟩

set_option maxHeartbeats 400000 in
theorem leastP_gt (w : World) (a b : Nat) (ha : a ≤ 18446744073709551615) (hb : b ≤ 18446744073709551615) (h1 : kindB b ≠ 4) (h2 : kindB a ≠ 4) (h3 : decide (ordB a b ≤ 0) = false) : Calls Try.prog 39 #[.float .f64 a, .float .f64 b] w fun e w' => e = .returned (.float .f64 b) ∧ w = w' := by
  have HB := Lib.hid (kindP_any w b hb)
  have HA := Lib.hid (kindP_any w a ha)
  have q1 : ((kindB b : Int) == 4) = false := beq_eq_false_iff_ne.2 (by omega)
  have q1' : ((kindB b : Int) != 4) = true := bne_iff_ne.2 (by omega)
  have q2 : ((kindB a : Int) != 4) = true := bne_iff_ne.2 (by omega)
  have q2' : ((kindB a : Int) == 4) = false := beq_eq_false_iff_ne.2 (by omega)
  have HO := Lib.hid (orderP_any w a b ha hb)
  clear h1 h2
  generalize kindB b = kb at *
  generalize kindB a = ka at *
  generalize ordB a b = o at *
  go_enter Try.func39, Try.ntmps39
  go_wp2_with fail
  refine HB.out.mono ?_
  rintro e w1 ⟨rfl, rfl⟩
  go_wp2_with fail
  refine HA.out.mono ?_
  rintro e w1 ⟨rfl, rfl⟩
  go_wp2_with fail
  refine HO.out.mono ?_
  rintro e w1 ⟨rfl, rfl⟩
  go_wp2
  go_ret
  exact ⟨rfl, rfl⟩

set_option maxHeartbeats 400000 in
theorem mostP_nan (w : World) (a b : Nat) (hb : b ≤ 18446744073709551615) (h1 : kindB b = 4) : Calls Try.prog 40 #[.float .f64 a, .float .f64 b] w fun e w' => e = .returned (.float .f64 a) ∧ w = w' := by
  have HB := Lib.hid (kindP_any w b hb)
  rw [h1] at HB
  clear h1
  go_enter Try.func40, Try.ntmps40
  go_wp2_with fail
  refine HB.out.mono ?_
  rintro e w1 ⟨rfl, rfl⟩
  go_wp2
  go_ret
  exact ⟨rfl, rfl⟩

set_option maxHeartbeats 400000 in
theorem mostP_xnan (w : World) (a b : Nat) (ha : a ≤ 18446744073709551615) (hb : b ≤ 18446744073709551615) (h1 : kindB b ≠ 4) (h2 : kindB a = 4) : Calls Try.prog 40 #[.float .f64 a, .float .f64 b] w fun e w' => e = .returned (.float .f64 b) ∧ w = w' := by
  have HB := Lib.hid (kindP_any w b hb)
  have HA := Lib.hid (kindP_any w a ha)
  have q1 : ((kindB b : Int) == 4) = false := beq_eq_false_iff_ne.2 (by omega)
  have q1' : ((kindB b : Int) != 4) = true := bne_iff_ne.2 (by omega)
  rw [h2] at HA
  clear h1 h2
  generalize kindB b = kb at *
  go_enter Try.func40, Try.ntmps40
  go_wp2_with fail
  refine HB.out.mono ?_
  rintro e w1 ⟨rfl, rfl⟩
  go_wp2_with fail
  refine HA.out.mono ?_
  rintro e w1 ⟨rfl, rfl⟩
  go_wp2
  go_ret
  exact ⟨rfl, rfl⟩

set_option maxHeartbeats 400000 in
theorem mostP_le (w : World) (a b : Nat) (ha : a ≤ 18446744073709551615) (hb : b ≤ 18446744073709551615) (h1 : kindB b ≠ 4) (h2 : kindB a ≠ 4) (h3 : decide (0 ≤ ordB a b) = true) : Calls Try.prog 40 #[.float .f64 a, .float .f64 b] w fun e w' => e = .returned (.float .f64 a) ∧ w = w' := by
  have HB := Lib.hid (kindP_any w b hb)
  have HA := Lib.hid (kindP_any w a ha)
  have q1 : ((kindB b : Int) == 4) = false := beq_eq_false_iff_ne.2 (by omega)
  have q1' : ((kindB b : Int) != 4) = true := bne_iff_ne.2 (by omega)
  have q2 : ((kindB a : Int) != 4) = true := bne_iff_ne.2 (by omega)
  have q2' : ((kindB a : Int) == 4) = false := beq_eq_false_iff_ne.2 (by omega)
  have HO := Lib.hid (orderP_any w a b ha hb)
  clear h1 h2
  generalize kindB b = kb at *
  generalize kindB a = ka at *
  generalize ordB a b = o at *
  go_enter Try.func40, Try.ntmps40
  go_wp2_with fail
  refine HB.out.mono ?_
  rintro e w1 ⟨rfl, rfl⟩
  go_wp2_with fail
  refine HA.out.mono ?_
  rintro e w1 ⟨rfl, rfl⟩
  go_wp2_with fail
  refine HO.out.mono ?_
  rintro e w1 ⟨rfl, rfl⟩
  go_wp2
  go_ret
  exact ⟨rfl, rfl⟩

set_option maxHeartbeats 400000 in
theorem mostP_gt (w : World) (a b : Nat) (ha : a ≤ 18446744073709551615) (hb : b ≤ 18446744073709551615) (h1 : kindB b ≠ 4) (h2 : kindB a ≠ 4) (h3 : decide (0 ≤ ordB a b) = false) : Calls Try.prog 40 #[.float .f64 a, .float .f64 b] w fun e w' => e = .returned (.float .f64 b) ∧ w = w' := by
  have HB := Lib.hid (kindP_any w b hb)
  have HA := Lib.hid (kindP_any w a ha)
  have q1 : ((kindB b : Int) == 4) = false := beq_eq_false_iff_ne.2 (by omega)
  have q1' : ((kindB b : Int) != 4) = true := bne_iff_ne.2 (by omega)
  have q2 : ((kindB a : Int) != 4) = true := bne_iff_ne.2 (by omega)
  have q2' : ((kindB a : Int) == 4) = false := beq_eq_false_iff_ne.2 (by omega)
  have HO := Lib.hid (orderP_any w a b ha hb)
  clear h1 h2
  generalize kindB b = kb at *
  generalize kindB a = ka at *
  generalize ordB a b = o at *
  go_enter Try.func40, Try.ntmps40
  go_wp2_with fail
  refine HB.out.mono ?_
  rintro e w1 ⟨rfl, rfl⟩
  go_wp2_with fail
  refine HA.out.mono ?_
  rintro e w1 ⟨rfl, rfl⟩
  go_wp2_with fail
  refine HO.out.mono ?_
  rintro e w1 ⟨rfl, rfl⟩
  go_wp2
  go_ret
  exact ⟨rfl, rfl⟩

theorem ordB_nan {a b : Nat} (h : kindB a = 4) (h' : kindB b ≠ 4) : ordB a b = 1 := by
  have := kindS_ne4 h'
  have hi : idxB b ≤ 18437736874454810625 := by
    rcases hn : negB b with _ | _
    · rw [idxB_pos h' hn]; omega
    · rw [idxB_neg h' hn]; omega
  exact ordB_gt (by rw [idxB_nan h]; omega)
theorem ordB_swap (a b : Nat) : ordB b a = -ordB a b := by
  unfold ordB
  rcases Nat.lt_trichotomy (idxB a) (idxB b) with h | h | h
  · rw [if_neg (by omega), if_pos h, if_pos h]; rfl
  · rw [if_neg (by omega), if_neg (by omega), if_neg (by omega), if_neg (by omega)]; rfl
  · rw [if_pos h, if_neg (by omega), if_pos h]
theorem sameB_refl (a : Nat) : sameB a a = true := by unfold sameB; exact beq_self_eq_true _
theorem sameB_nan {a b : Nat} (h : kindB a = 4) (h' : kindB b = 4) : sameB a b = true := by unfold sameB; rw [idxB_nan h, idxB_nan h']; rfl
theorem sameB_ord {a b : Nat} (h : ordB a b = 0) : sameB a b = true := by rw [same_ord, h]; rfl

/-- The program's Least and Most are the document's, but for which NaN. -/
theorem leastP_all (a b : Nat) (ha : a ≤ 18446744073709551615) (hb : b ≤ 18446744073709551615) : ∃ r, r ≤ 18446744073709551615 ∧ sameB r (leastB a b) = true ∧ ∀ w, Calls Try.prog 39 #[.float .f64 a, .float .f64 b] w fun e w' => e = .returned (.float .f64 r) ∧ w = w' := by
  have hs := ordB_swap a b
  by_cases h1 : kindB b = 4
  · refine ⟨a, ha, ?_, fun w => leastP_nan w a b hb h1⟩
    unfold leastB
    by_cases h2 : kindB a = 4
    · split
      · exact sameB_nan h2 h1
      · exact sameB_refl a
    · rw [if_neg (by rw [ordB_nan h1 h2]; omega)]; exact sameB_refl a
  · by_cases h2 : kindB a = 4
    · refine ⟨b, hb, ?_, fun w => leastP_xnan w a b ha hb h1 h2⟩
      unfold leastB
      rw [if_pos (by rw [hs, ordB_nan h2 h1]; omega)]; exact sameB_refl b
    · by_cases h3 : ordB a b ≤ 0
      · refine ⟨a, ha, ?_, fun w => leastP_le w a b ha hb h1 h2 (decide_eq_true h3)⟩
        unfold leastB
        rw [if_neg (by omega)]; exact sameB_refl a
      · refine ⟨b, hb, ?_, fun w => leastP_gt w a b ha hb h1 h2 (decide_eq_false h3)⟩
        unfold leastB
        rw [if_pos (by omega)]; exact sameB_refl b
theorem mostP_all (a b : Nat) (ha : a ≤ 18446744073709551615) (hb : b ≤ 18446744073709551615) : ∃ r, r ≤ 18446744073709551615 ∧ sameB r (mostB a b) = true ∧ ∀ w, Calls Try.prog 40 #[.float .f64 a, .float .f64 b] w fun e w' => e = .returned (.float .f64 r) ∧ w = w' := by
  by_cases h1 : kindB b = 4
  · refine ⟨a, ha, ?_, fun w => mostP_nan w a b hb h1⟩
    unfold mostB
    by_cases h2 : kindB a = 4
    · rw [if_pos h2]; exact sameB_nan h2 h1
    · rw [if_neg h2, if_pos h1]; exact sameB_refl a
  · by_cases h2 : kindB a = 4
    · refine ⟨b, hb, ?_, fun w => mostP_xnan w a b ha hb h1 h2⟩
      unfold mostB
      rw [if_pos h2]; exact sameB_refl b
    · by_cases h3 : 0 ≤ ordB a b
      · refine ⟨a, ha, ?_, fun w => mostP_le w a b ha hb h1 h2 (decide_eq_true h3)⟩
        unfold mostB
        rw [if_neg h2, if_neg h1]
        by_cases h4 : 0 < ordB a b
        · rw [if_pos h4]; exact sameB_refl a
        · rw [if_neg h4]; exact sameB_ord (by omega)
      · refine ⟨b, hb, ?_, fun w => mostP_gt w a b ha hb h1 h2 (decide_eq_false h3)⟩
        unfold mostB
        rw [if_neg h2, if_neg h1, if_neg (by omega)]; exact sameB_refl b
end Go.Proofs.Ytffibfnagoagcaa
