/- Contracts: the document's order of floats: Index, Order, Same, Least, Most. -/
import Derived.Test.YtffibfnagoagcaaReal
namespace Go.Proofs.Ytffibfnagoagcaa
open Go.RowKit
set_option maxRecDepth 100000

/-- The place of some bits in the order. -/
def idxB (b : Nat) : Nat := if kindB b = 4 then 18437736874454810626 else if negB b then 9218868437227405312 - szB b else 9218868437227405313 + szB b

theorem kindS_ne4 {s : Nat} (h : kindS s ≠ 4) : s ≤ 9218868437227405312 := by
  rcases Nat.lt_or_ge 9218868437227405312 s with h1 | h1
  · exact absurd (kindS_4 h1) h
  · exact h1

theorem idxB_nan {b : Nat} (h : kindB b = 4) : idxB b = 18437736874454810626 := by unfold idxB; rw [if_pos h]
theorem idxB_neg {b : Nat} (h : kindB b ≠ 4) (hn : negB b = true) : idxB b = 9218868437227405312 - szB b := by unfold idxB; rw [if_neg h, if_pos hn]
theorem idxB_pos {b : Nat} (h : kindB b ≠ 4) (hn : negB b = false) : idxB b = 9218868437227405313 + szB b := by unfold idxB; rw [if_neg h, hn]; rfl
theorem idxB_le (b : Nat) : idxB b ≤ 18437736874454810626 := by
  by_cases h : kindB b = 4
  · rw [idxB_nan h]; omega
  · have h1 := kindS_ne4 h
    rcases hn : negB b with _ | _
    · rw [idxB_pos h hn]; omega
    · rw [idxB_neg h hn]; omega

set_option maxRecDepth 100000 in
set_option maxHeartbeats 800000 in
theorem index3_any (w : World) (b : Nat) (hb : b ≤ 18446744073709551615) : Calls Try.prog 47 #[.float .f64 b] w fun e w' => e = .returned (.int .u64 (idxB b : Int)) ∧ w = w' := by
  have HC := Lib.hid (kind3_any w b hb)
  have HM := Lib.hid (minus3_any w b hb)
  have HS := Lib.hid (size3_any w b hb)
  by_cases h4 : kindB b = 4
  · have HI := Lib.hid (idxB_nan h4)
    rw [h4] at HC
    clear h4
    go_enter Try.func47, Try.ntmps47
    go_wp2_with fail
    refine HC.out.mono ?_
    rintro e w1 ⟨rfl, rfl⟩
    go_wp2
    go_ret
    exact ⟨ret_int (by rw [HI.out]; rfl), rfl⟩
  · have hle := kindS_ne4 h4
    have q0 : ((kindB b : Int) == 4) = false := beq_eq_false_iff_ne.2 (by omega)
    rcases hn : negB b with _ | _
    · have HI := Lib.hid (idxB_pos h4 hn)
      rw [hn] at HM
      clear h4 hn
      generalize kindB b = k at *
      generalize szB b = s at *
      go_enter Try.func47, Try.ntmps47
      go_wp2_with fail
      refine HC.out.mono ?_
      rintro e w1 ⟨rfl, rfl⟩
      go_wp2_with fail
      refine HM.out.mono ?_
      rintro e w1 ⟨rfl, rfl⟩
      go_wp2_with fail
      refine HS.out.mono ?_
      rintro e w1 ⟨rfl, rfl⟩
      go_wp2
      go_ret
      exact ⟨ret_int (by rw [HI.out]; omega), rfl⟩
    · have HI := Lib.hid (idxB_neg h4 hn)
      rw [hn] at HM
      clear h4 hn
      generalize kindB b = k at *
      generalize szB b = s at *
      go_enter Try.func47, Try.ntmps47
      go_wp2_with fail
      refine HC.out.mono ?_
      rintro e w1 ⟨rfl, rfl⟩
      go_wp2_with fail
      refine HM.out.mono ?_
      rintro e w1 ⟨rfl, rfl⟩
      go_wp2_with fail
      refine HS.out.mono ?_
      rintro e w1 ⟨rfl, rfl⟩
      go_wp2
      go_ret
      exact ⟨ret_int (by rw [HI.out]; omega), rfl⟩

/-- -1, 0 or 1: the order of two floats by their bits. -/
def ordB (a b : Nat) : Int := if idxB a < idxB b then -1 else if idxB b < idxB a then 1 else 0
theorem ordB_lt {a b : Nat} (h : idxB a < idxB b) : ordB a b = -1 := by unfold ordB; rw [if_pos h]
theorem ordB_gt {a b : Nat} (h : idxB b < idxB a) : ordB a b = 1 := by unfold ordB; rw [if_neg (by omega), if_pos h]
theorem ordB_eq {a b : Nat} (h : idxB a = idxB b) : ordB a b = 0 := by unfold ordB; rw [if_neg (by omega), if_neg (by omega)]
def sameB (a b : Nat) : Bool := idxB a == idxB b

set_option maxRecDepth 100000 in
set_option maxHeartbeats 800000 in
theorem order3_any (w : World) (a b : Nat) (ha : a ≤ 18446744073709551615) (hb : b ≤ 18446744073709551615) : Calls Try.prog 61 #[.float .f64 a, .float .f64 b] w fun e w' => e = .returned (.int .i64 (ordB a b)) ∧ w = w' := by
  have HA := Lib.hid (index3_any w a ha)
  have HB := Lib.hid (index3_any w b hb)
  have ia := idxB_le a
  have ib := idxB_le b
  rcases Nat.lt_trichotomy (idxB a) (idxB b) with h | h | h
  · have HO := Lib.hid (ordB_lt h)
    generalize idxB a = i at *
    generalize idxB b = j at *
    go_enter Try.func61, Try.ntmps61
    go_wp2_with fail
    refine HA.out.mono ?_
    rintro e w1 ⟨rfl, rfl⟩
    go_wp2_with fail
    refine HB.out.mono ?_
    rintro e w1 ⟨rfl, rfl⟩
    go_wp2
    go_ret
    exact ⟨ret_int (by rw [HO.out]), rfl⟩
  · have HO := Lib.hid (ordB_eq h)
    rw [← h] at HB
    clear h
    generalize idxB a = i at *
    generalize idxB b = j at *
    go_enter Try.func61, Try.ntmps61
    go_wp2_with fail
    refine HA.out.mono ?_
    rintro e w1 ⟨rfl, rfl⟩
    go_wp2_with fail
    refine HB.out.mono ?_
    rintro e w1 ⟨rfl, rfl⟩
    go_wp2
    go_ret
    exact ⟨ret_int (by rw [HO.out]), rfl⟩
  · have HO := Lib.hid (ordB_gt h)
    generalize idxB a = i at *
    generalize idxB b = j at *
    go_enter Try.func61, Try.ntmps61
    go_wp2_with fail
    refine HA.out.mono ?_
    rintro e w1 ⟨rfl, rfl⟩
    go_wp2_with fail
    refine HB.out.mono ?_
    rintro e w1 ⟨rfl, rfl⟩
    go_wp2
    go_ret
    exact ⟨ret_int (by rw [HO.out]), rfl⟩

set_option maxRecDepth 100000 in
set_option maxHeartbeats 800000 in
theorem same3_any (w : World) (a b : Nat) (ha : a ≤ 18446744073709551615) (hb : b ≤ 18446744073709551615) : Calls Try.prog 19 #[.float .f64 a, .float .f64 b] w fun e w' => e = .returned (.bool (sameB a b)) ∧ w = w' := by
  have HA := Lib.hid (index3_any w a ha)
  have HB := Lib.hid (index3_any w b hb)
  have HO : Hid (sameB a b = ((idxB a : Int) == (idxB b : Int))) := by
    refine Lib.hid ?_
    unfold sameB
    rw [Bool.eq_iff_iff]
    simp
    omega
  generalize idxB a = i at *
  generalize idxB b = j at *
  go_enter Try.func19, Try.ntmps19
  go_wp2_with fail
  refine HA.out.mono ?_
  rintro e w1 ⟨rfl, rfl⟩
  go_wp2_with fail
  refine HB.out.mono ?_
  rintro e w1 ⟨rfl, rfl⟩
  go_wp2
  go_ret
  exact ⟨ret_bool (by rw [HO.out]), rfl⟩

/-- Least and Most, by bits. -/
def leastB (a b : Nat) : Nat := if ordB b a < 0 then b else a
def mostB (a b : Nat) : Nat := if kindB a = 4 then b else if kindB b = 4 then a else if 0 < ordB a b then a else b

theorem ret_float {a b : Nat} (h : a = b) : Ending.returned (.float .f64 a) = .returned (.float .f64 b) := by rw [h]

set_option maxRecDepth 100000 in
set_option maxHeartbeats 800000 in
theorem least3_any (w : World) (a b : Nat) (ha : a ≤ 18446744073709551615) (hb : b ≤ 18446744073709551615) : Calls Try.prog 45 #[.float .f64 a, .float .f64 b] w fun e w' => e = .returned (.float .f64 (leastB a b)) ∧ w = w' := by
  have HO := Lib.hid (order3_any w b a hb ha)
  by_cases h : ordB b a < 0
  · have HL : Hid (leastB a b = b) := Lib.hid (by unfold leastB; rw [if_pos h])
    generalize ordB b a = o at *
    go_enter Try.func45, Try.ntmps45
    go_wp2_with fail
    refine HO.out.mono ?_
    rintro e w1 ⟨rfl, rfl⟩
    go_wp2
    go_ret
    exact ⟨ret_float HL.out.symm, rfl⟩
  · have HL : Hid (leastB a b = a) := Lib.hid (by unfold leastB; rw [if_neg h])
    generalize ordB b a = o at *
    go_enter Try.func45, Try.ntmps45
    go_wp2_with fail
    refine HO.out.mono ?_
    rintro e w1 ⟨rfl, rfl⟩
    go_wp2
    go_ret
    exact ⟨ret_float HL.out.symm, rfl⟩

set_option maxRecDepth 100000 in
set_option maxHeartbeats 800000 in
theorem most3_any (w : World) (a b : Nat) (ha : a ≤ 18446744073709551615) (hb : b ≤ 18446744073709551615) : Calls Try.prog 46 #[.float .f64 a, .float .f64 b] w fun e w' => e = .returned (.float .f64 (mostB a b)) ∧ w = w' := by
  have HO := Lib.hid (order3_any w a b ha hb)
  have HKA := Lib.hid (kind3_any w a ha)
  have HKB := Lib.hid (kind3_any w b hb)
  by_cases h1 : kindB a = 4
  · have HL : Hid (mostB a b = b) := Lib.hid (by unfold mostB; rw [if_pos h1])
    rw [h1] at HKA
    clear h1
    go_enter Try.func46, Try.ntmps46
    go_wp2_with fail
    refine HKA.out.mono ?_
    rintro e w1 ⟨rfl, rfl⟩
    go_wp2
    go_ret
    exact ⟨ret_float HL.out.symm, rfl⟩
  · have q1 : ((kindB a : Int) == 4) = false := beq_eq_false_iff_ne.2 (by omega)
    by_cases h2 : kindB b = 4
    · have HL : Hid (mostB a b = a) := Lib.hid (by unfold mostB; rw [if_neg h1, if_pos h2])
      rw [h2] at HKB
      clear h1 h2
      generalize kindB a = ka at *
      go_enter Try.func46, Try.ntmps46
      go_wp2_with fail
      refine HKA.out.mono ?_
      rintro e w1 ⟨rfl, rfl⟩
      go_wp2_with fail
      refine HKB.out.mono ?_
      rintro e w1 ⟨rfl, rfl⟩
      go_wp2
      go_ret
      exact ⟨ret_float HL.out.symm, rfl⟩
    · have q2 : ((kindB b : Int) == 4) = false := beq_eq_false_iff_ne.2 (by omega)
      by_cases h3 : 0 < ordB a b
      · have HL : Hid (mostB a b = a) := Lib.hid (by unfold mostB; rw [if_neg h1, if_neg h2, if_pos h3])
        clear h1 h2
        generalize kindB a = ka at *
        generalize kindB b = kb at *
        generalize ordB a b = o at *
        go_enter Try.func46, Try.ntmps46
        go_wp2_with fail
        refine HKA.out.mono ?_
        rintro e w1 ⟨rfl, rfl⟩
        go_wp2_with fail
        refine HKB.out.mono ?_
        rintro e w1 ⟨rfl, rfl⟩
        go_wp2_with fail
        refine HO.out.mono ?_
        rintro e w1 ⟨rfl, rfl⟩
        go_wp2
        go_ret
        exact ⟨ret_float HL.out.symm, rfl⟩
      · have HL : Hid (mostB a b = b) := Lib.hid (by unfold mostB; rw [if_neg h1, if_neg h2, if_neg h3])
        clear h1 h2
        generalize kindB a = ka at *
        generalize kindB b = kb at *
        generalize ordB a b = o at *
        go_enter Try.func46, Try.ntmps46
        go_wp2_with fail
        refine HKA.out.mono ?_
        rintro e w1 ⟨rfl, rfl⟩
        go_wp2_with fail
        refine HKB.out.mono ?_
        rintro e w1 ⟨rfl, rfl⟩
        go_wp2_with fail
        refine HO.out.mono ?_
        rintro e w1 ⟨rfl, rfl⟩
        go_wp2
        go_ret
        exact ⟨ret_float HL.out.symm, rfl⟩
end Go.Proofs.Ytffibfnagoagcaa
