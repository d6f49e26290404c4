/- The walk of RealTurns. -/
import Derived.Test.YtafboimlchjnaaaDoorLaws3b
import Derived.Test.YtafboimlchjnaaaDoorTurnM
namespace Go.Proofs.YtafboimlchjnaaaDoor
open Go.RowKit
set_option maxRecDepth 100000

theorem negf_turn {x : Nat} (h : x ≤ 18446744073709551615) : Op.negFloat .f64 x = turnB x := by
  unfold turnB
  rcases Nat.lt_or_ge x 9223372036854775808 with h1 | h1
  · rw [if_pos h1, bits_negate h1]
  · rw [if_neg (by omega)]
    have h2 := bits_negate (r := x - 9223372036854775808) (by omega)
    rw [show x - 9223372036854775808 + 9223372036854775808 = x by omega] at h2
    have h3 : Op.negFloat .f64 (Op.negFloat .f64 (x - 9223372036854775808)) = x - 9223372036854775808 := by
      show (x - 9223372036854775808) ^^^ 2 ^ 63 ^^^ 2 ^ 63 = _
      rw [Nat.xor_assoc, Nat.xor_self, Nat.xor_zero]
    rw [h2] at h3
    exact h3
theorem turnB_le {x : Nat} (h : x ≤ 18446744073709551615) : turnB x ≤ 18446744073709551615 := by unfold turnB; split <;> omega

set_option maxHeartbeats 1600000 in
theorem realTurns_zero (w : World) (a b a4 : Int) (ea : a / 4 = a4) (eb : b / 4 = 0) (h1 : -9223372036854775808 ≤ a4) (h2 : a4 ≤ 9223372036854775807) (hT : Tab w) : Calls Tryd.prog 9 #[.int .i64 a, .int .i64 b] w fun e w' => e = .returned (.bool true) ∧ Below w.heap.size w w' := by
  have HT := Lib.hid hT
  have HA := Lib.hid (fun w hT => awake3_any w hT)
  have H1 := Lib.hid (fun w => ratioP_any w a4 0 h1 h2 (by omega) (by omega))
  have hv : ratioV a4 0 = .tuple #[.float .f64 0, .int .i64 5] := by unfold ratioV; rw [if_pos rfl]
  have H2 := Lib.hid (fun w => sameP_any w 0 0 (by omega) (by omega))
  rw [hv] at H1
  rw [sameB_refl] at H2
  clear hv hT h1 h2
  go_enter Tryd.func9, Tryd.ntmps9
  go_wp2_with fail
  refine (HA.out _ HT.out).mono ?_
  rintro e w1 ⟨rfl, hb1⟩
  have HB1 := Lib.hid hb1
  clear hb1
  go_wp2_with fail
  refine (H1.out _).mono ?_
  rintro e w2 ⟨rfl, n, rfl⟩
  go_wp2_with fail
  refine (H2.out _).mono ?_
  rintro e w2 ⟨rfl, rfl⟩
  go_wp2
  go_ret
  exact ⟨rfl, below_drewN HB1.out n⟩

set_option maxHeartbeats 3200000 in
theorem realTurns_one (w : World) (a b a4 b4 : Int) (ea : a / 4 = a4) (eb : b / 4 = b4) (h1 : -2305843009213693952 ≤ a4) (h2 : a4 ≤ 2305843009213693951) (h3 : -2305843009213693952 ≤ b4) (h4 : b4 ≤ 2305843009213693951) (h0 : b4 ≠ 0) (hT : Tab w) : Calls Tryd.prog 9 #[.int .i64 a, .int .i64 b] w fun e w' => e = .returned (.bool true) ∧ Below w.heap.size w w' := by
  have HT := Lib.hid hT
  have HA := Lib.hid (fun w hT => awake3_any w hT)
  have v : ∀ x y : Int, y ≠ 0 → ratioV x y = .tuple #[.float .f64 (ratioB x y), .int .i64 0] := fun x y hy => by unfold ratioV; rw [if_neg hy]
  have hx := VB_ratio (a := a4) (b := b4) (by omega) (by omega) (by omega) (by omega) h0
  have hu := VB_ratio (a := a4 + 1) (b := b4) (by omega) (by omega) (by omega) (by omega) h0
  have hz := VB_ratio (a := -a4) (b := b4) (by omega) (by omega) (by omega) (by omega) h0
  have H1 := Lib.hid (fun w => ratioP_any w a4 b4 (by omega) (by omega) (by omega) (by omega))
  have H2 := Lib.hid (fun w => ratioP_any w (-a4) (-b4) (by omega) (by omega) (by omega) (by omega))
  have H3 := Lib.hid (fun w => ratioP_any w (-a4) b4 (by omega) (by omega) (by omega) (by omega))
  have H4 := Lib.hid (fun w => ratioP_any w (2 * a4) (2 * b4) (by omega) (by omega) (by omega) (by omega))
  have H5 := Lib.hid (fun w => ratioP_any w b4 b4 (by omega) (by omega) (by omega) (by omega))
  have H6 := Lib.hid (fun w => ratioP_any w (a4 + 1) b4 (by omega) (by omega) (by omega) (by omega))
  rw [v _ _ h0] at H1 H3 H5 H6
  rw [v _ _ (by omega), ratio_same h0] at H2
  rw [v _ _ (by omega), ratio_twice (by omega) (by omega) (by omega) (by omega) h0] at H4
  rw [ratio_self (by omega) (by omega) h0] at H5
  have HS := Lib.hid (fun w => sameP_any w (ratioB a4 b4) (ratioB a4 b4) hx.2.1 hx.2.1)
  rw [sameB_refl] at HS
  have O1 : FloatKind.f64.format.order 4607182418800017408 4607182418800017408 = some .eq := ordF_self (by omega) (by decide)
  have NG : Op.negFloat .f64 (ratioB a4 b4) = turnB (ratioB a4 b4) := negf_turn hx.2.1
  have O2 : FloatKind.f64.format.order (ratioB (-a4) b4) (turnB (ratioB a4 b4)) = some .eq := by
    by_cases ha : a4 = 0
    · subst ha
      rw [show -(0 : Int) = 0 from rfl, ratioB_zero]
      decide +kernel
    · have hl := nearB_le (N := a4.natAbs) (M := b4.natAbs) (by omega) (by omega) (by omega)
      rw [ratio_neg ha (by omega)] at hz ⊢
      exact ordF_self hz.2.1 (by omega)
  have up := ratio_up (a := a4) (b := b4) (by omega) (by omega) (by omega) (by omega)
  have ou : ordF (ratioB (a4 + 1) b4) (ratioB a4 b4) = some (compare (VB (ratioB (a4 + 1) b4)) (VB (ratioB a4 b4))) := ordF_fin hu.2.1 hx.2.1 hu.1 hx.1
  have HM := Lib.hid (fun w => minusP_any w (ratioB a4 b4) hx.2.1)
  have HM2 := Lib.hid (fun w => minusP_any w (ratioB (-a4) b4) hz.2.1)
  have m0 : a4 = 0 → negB (ratioB a4 b4) = false ∧ negB (ratioB (-a4) b4) = false := fun ha => by
    subst ha
    rw [show -(0 : Int) = 0 from rfl, ratioB_zero]
    decide
  have fin : (decide (0 < b4) = true ∧ ((FloatKind.f64.format.order (ratioB (a4 + 1) b4) (ratioB a4 b4) = some .gt) ∨ (FloatKind.f64.format.order (ratioB (a4 + 1) b4) (ratioB a4 b4) = some .eq))) ∨
      (decide (0 < b4) = false ∧ decide (b4 < 0) = true ∧ ((FloatKind.f64.format.order (ratioB (a4 + 1) b4) (ratioB a4 b4) = some .lt) ∨ (FloatKind.f64.format.order (ratioB (a4 + 1) b4) (ratioB a4 b4) = some .eq))) := by
    have e : FloatKind.f64.format.order (ratioB (a4 + 1) b4) (ratioB a4 b4) = some (compare (VB (ratioB (a4 + 1) b4)) (VB (ratioB a4 b4))) := ou
    rw [e]
    rcases Int.lt_or_le 0 b4 with hb | hb
    · left
      refine ⟨decide_eq_true hb, ?_⟩
      rcases Int.lt_or_eq_of_le (up.1 hb) with h | h
      · left; rw [order_gt_iff.2 h]
      · right; rw [order_eq_iff.2 h.symm]
    · right
      refine ⟨decide_eq_false (by omega), decide_eq_true (by omega), ?_⟩
      rcases Int.lt_or_eq_of_le (up.2 (by omega)) with h | h
      · left; rw [order_lt_iff.2 h]
      · right; rw [order_eq_iff.2 h]
  have tz : (a4 == 0) = false ∨ ((a4 == 0) = true ∧ negB (ratioB a4 b4) = false ∧ negB (ratioB (-a4) b4) = false) := by
    by_cases ha : a4 = 0
    · exact .inr ⟨by simp [ha], m0 ha⟩
    · exact .inl (by simp [ha])
  have HFIN := Lib.hid fin
  have HTZ := Lib.hid tz
  have tb : (b4 == 0) = false := by simp [h0]
  clear v hx hu hz hT up ou m0 fin tz h0
  generalize ratioB a4 b4 = x at *
  generalize ratioB (a4 + 1) b4 = u at *
  generalize ratioB (-a4) b4 = z at *
  go_enter Tryd.func9, Tryd.ntmps9
  go_wp2_with fail
  refine (HA.out _ HT.out).mono ?_
  rintro e w1 ⟨rfl, hb1⟩
  have HB1 := Lib.hid hb1
  clear hb1
  go_wp2_with fail
  refine (H1.out _).mono ?_
  rintro e w2 ⟨rfl, n1, rfl⟩
  go_wp2_with fail
  refine (H2.out _).mono ?_
  rintro e w2 ⟨rfl, n2, rfl⟩
  go_wp2_with fail
  refine (H3.out _).mono ?_
  rintro e w2 ⟨rfl, n3, rfl⟩
  go_wp2_with fail
  refine (H4.out _).mono ?_
  rintro e w2 ⟨rfl, n4, rfl⟩
  go_wp2_with fail
  refine (H5.out _).mono ?_
  rintro e w2 ⟨rfl, n5, rfl⟩
  go_wp2_with fail
  refine (H6.out _).mono ?_
  rintro e w2 ⟨rfl, n6, rfl⟩
  go_wp2_with fail
  refine (HS.out _).mono ?_
  rintro e w2 ⟨rfl, rfl⟩
  go_wp2_with fail
  refine (HS.out _).mono ?_
  rintro e w2 ⟨rfl, rfl⟩
  go_wp2_with fail
  rw [run_negf, NG]
  simp only [Result.andThen]
  rw [Oper.upon_value]
  rcases HTZ.out with t0 | ⟨t0, t1, t2⟩
  · rcases HFIN.out with ⟨f1, f2 | f2⟩ | ⟨f1, f3, f2 | f2⟩
    all_goals
      go_wp2
      go_ret
      exact ⟨rfl, below_drewN HB1.out _⟩
  · rw [t1] at HM
    rw [t2] at HM2
    go_wp2_with fail
    refine (HM.out _).mono ?_
    rintro e w2 ⟨rfl, rfl⟩
    go_wp2_with fail
    refine (HM2.out _).mono ?_
    rintro e w2 ⟨rfl, rfl⟩
    rcases HFIN.out with ⟨f1, f2 | f2⟩ | ⟨f1, f3, f2 | f2⟩
    all_goals
      go_wp2
      go_ret
      exact ⟨rfl, below_drewN HB1.out _⟩

theorem realTurns_walk (a b : Int) (w : World) (wa : (Lit.int .i64 a).wf = true) (wb : (Lit.int .i64 b).wf = true) (hT : Tab w) : Calls Tryd.prog 9 #[.int .i64 a, .int .i64 b] w fun e w' => e = .returned (.bool true) ∧ Below w.heap.size w w' := by
  obtain ⟨a1, a2⟩ := bounds_i64 wa
  obtain ⟨b1, b2⟩ := bounds_i64 wb
  by_cases h0 : b / 4 = 0
  · exact realTurns_zero w a b _ rfl h0 (by omega) (by omega) hT
  · exact realTurns_one w a b _ _ rfl rfl (by omega) (by omega) (by omega) (by omega) h0 hT
end Go.Proofs.YtafboimlchjnaaaDoor
