/- Contracts of package real: quotient, Ratio, Seconds. -/
import Derived.Test.YtafboimlchjnaaaDoorQuotM
import Derived.Test.YtafboimlchjnaaaDoorLdexp
import Derived.Test.YtafboimlchjnaaaDoorDiv64
import Derived.Test.YtafboimlchjnaaaDoorTicksP
import Derived.WalkArith
namespace Go.Proofs.YtafboimlchjnaaaDoor
open Go.RowKit
set_option maxRecDepth 100000

theorem lz_at (a : Nat) (h0 : 0 < a) (h : a < 18446744073709551616) : ∃ u A : Nat, u ≤ 63 ∧ a * 2 ^ u = A ∧ 9223372036854775808 ≤ A ∧ A < 18446744073709551616 ∧ ∀ w, Calls Tryd.prog 93 #[.int .u64 (a : Int)] w fun e w' => e = .returned (.int .i64 (u : Int)) ∧ w = w' := by
  obtain ⟨b1, b2, b3⟩ := Lib.bitLenAux_bounds 64 a (by omega) (by omega)
  have b4 : Lib.bitLen a ≤ 64 := Lib.bitLen_le a 64 (by omega) (by omega)
  have hb : Lib.bitLenAux 64 a = Lib.bitLen a := rfl
  rw [hb] at b1 b2 b3
  obtain ⟨s, hs⟩ : ∃ s, s = 64 - Lib.bitLen a := ⟨_, rfl⟩
  have l1 : 2 ^ (Lib.bitLen a - 1) * 2 ^ s ≤ a * 2 ^ s := Nat.mul_le_mul_right _ b2
  have l2 : a * 2 ^ s < 2 ^ Lib.bitLen a * 2 ^ s := Nat.mul_lt_mul_of_pos_right b3 (pow_pos2 s)
  rw [← Nat.pow_add] at l1 l2
  rw [show Lib.bitLen a - 1 + s = 63 by omega] at l1
  rw [show Lib.bitLen a + s = 64 by omega] at l2
  refine ⟨s, a * 2 ^ s, by omega, rfl, l1, l2, fun w => ?_⟩
  have := Tryd.bits_LeadingZeros64 (a : Int) w (by omega) (by omega)
  rw [Int.toNat_natCast, show (64 : Int) - (Lib.bitLen a : Int) = (s : Int) by omega] at this
  exact this.mono fun _ _ h => ⟨h.1, h.2.symm⟩

theorem or1 {q r : Nat} (h : q < 18446744073709551616) (hr : 0 < r) : Go.bits BinOp.or IntKind.u64 (q : Int) 1 = ((stick q r : Nat) : Int) := by
  have h1 := bits_or_u64_nat q 1 h (by omega)
  have h2 : q ||| 1 = stick q r := by
    have h3 : q / 2 * 2 ^ 1 ||| 1 = q / 2 * 2 ^ 1 + 1 := by rw [Nat.or_comm]; exact or_add (by omega)
    rw [Nat.pow_one] at h3
    unfold stick
    by_cases hp : q % 2 = 0
    · rw [if_pos ⟨hr, hp⟩]
      rw [show q / 2 * 2 = q by omega] at h3
      exact h3
    · rw [if_neg (by omega)]
      have h4 : q / 2 * 2 ||| 1 = q := by omega
      have h5 := congrArg (fun z => z ||| 1) h4
      simp only [Nat.or_assoc, Nat.or_self] at h5
      rw [← h5]
      exact h4
  rw [h2] at h1
  exact h1

set_option maxHeartbeats 400000 in
theorem quotP_at (w : World) (a b u d A A1 A63 B q r s fb res : Nat) (c : Bool) (hu : u ≤ 63) (hd : d ≤ 63)
    (HU : Hid (∀ w, Calls Tryd.prog 93 #[.int .u64 (a : Int)] w fun e w' => e = .returned (.int .i64 (u : Int)) ∧ w = w'))
    (HD : Hid (∀ w, Calls Tryd.prog 93 #[.int .u64 (b : Int)] w fun e w' => e = .returned (.int .i64 (d : Int)) ∧ w = w'))
    (HV : Hid (∀ w, Calls Tryd.prog 94 #[.int .u64 (A1 : Int), .int .u64 (A63 : Int), .int .u64 (B : Int)] w fun e w' => e = .returned (.tuple #[.int .u64 (q : Int), .int .u64 (r : Int)]) ∧ ∃ n, w' = w.drewN n))
    (HL : Hid (∀ w, Calls Tryd.prog 38 #[.float .f64 fb, .int .i64 ((d : Int) - u - 63)] w fun e w' => e = .returned (.float .f64 res) ∧ w = w'))
    (E1 : IntKind.u64.wrap ((a : Int) * 2 ^ u) = (A : Int)) (E2 : IntKind.u64.wrap ((b : Int) * 2 ^ d) = (B : Int)) (E3 : (A : Int) / 2 = (A1 : Int)) (E4 : IntKind.u64.wrap ((A : Int) * 9223372036854775808) = (A63 : Int))
    (hc : decide (0 < r) = c) (E5 : Hid (c = true → Go.bits BinOp.or IntKind.u64 (q : Int) 1 = (s : Int))) (E6 : Hid (c = false → q = s)) (E7 : floatOfInt FloatKind.f64 (s : Int) = fb) :
    Calls Tryd.prog 68 #[.int .u64 (a : Int), .int .u64 (b : Int)] w (ExP w (.float .f64 res)) := by
  have u0 : (0 : Int) ≤ u := by omega
  have u1 : (u : Int) ≤ 63 := by omega
  have d0 : (0 : Int) ≤ d := by omega
  have d1 : (d : Int) ≤ 63 := by omega
  clear hu hd
  rcases c with _ | _
  · obtain rfl := E6.out rfl
    clear E5 E6
    go_enter Tryd.func68, Tryd.ntmps68
    go_wp2_with fail
    refine (HU.out _).mono ?_
    rintro e w1 ⟨rfl, rfl⟩
    go_wp2_with fail
    refine (HD.out _).mono ?_
    rintro e w1 ⟨rfl, rfl⟩
    go_wp2_with fail
    go_quiet (fail)
    go_wp2_with fail
    refine (HV.out _).mono ?_
    rintro e w1 ⟨rfl, n, rfl⟩
    go_wp2_with fail
    refine (HL.out _).mono ?_
    rintro e w1 ⟨rfl, rfl⟩
    go_wp2
    go_ret
    exact ⟨rfl, _, rfl⟩
  · have E5' := E5.out rfl
    clear E5 E6
    go_enter Tryd.func68, Tryd.ntmps68
    go_wp2_with fail
    refine (HU.out _).mono ?_
    rintro e w1 ⟨rfl, rfl⟩
    go_wp2_with fail
    refine (HD.out _).mono ?_
    rintro e w1 ⟨rfl, rfl⟩
    go_wp2_with fail
    go_quiet (fail)
    go_wp2_with fail
    refine (HV.out _).mono ?_
    rintro e w1 ⟨rfl, n, rfl⟩
    go_wp2_with fail
    refine (HL.out _).mono ?_
    rintro e w1 ⟨rfl, rfl⟩
    go_wp2
    go_ret
    exact ⟨rfl, _, rfl⟩

theorem quotP_any (w : World) (a b : Nat) (ha : 0 < a) (hb : 0 < b) (ha' : a < 18446744073709551616) (hb' : b < 18446744073709551616) :
    Calls Tryd.prog 68 #[.int .u64 (a : Int), .int .u64 (b : Int)] w (ExP w (.float .f64 (nearB a b))) := by
  obtain ⟨u, A, hu, hA, hA1, hA2, HU⟩ := lz_at a ha ha'
  obtain ⟨d, B, hd, hB, hB1, hB2, HD⟩ := lz_at b hb hb'
  obtain ⟨q, hq⟩ : ∃ q, A * 9223372036854775808 / B = q := ⟨_, rfl⟩
  obtain ⟨r, hr⟩ : ∃ r, A * 9223372036854775808 % B = r := ⟨_, rfl⟩
  obtain ⟨fb, hf1, hf2, hf3, hf4⟩ := near_shift ha hb (by omega) (by omega) hA hB hA1 hA2 hB1 hB2 hu hq hr
  have hq2 : q < 18446744073709551616 := by
    rw [← hq, Nat.div_lt_iff_lt_mul (by omega)]
    omega
  have hnb := nearB_le (N := a) (M := b) (by omega) (by omega) hb
  refine quotP_at w a b u d A (A / 2) (A * 9223372036854775808 % 18446744073709551616) B q r (stick q r) fb _ (decide (0 < r)) hu hd (Lib.hid HU) (Lib.hid HD) (Lib.hid fun w => ?_) (Lib.hid fun w => ?_) ?_ ?_ (by omega) ?_ rfl (Lib.hid fun h => or1 hq2 (of_decide_eq_true h)) (Lib.hid fun h => ?_) ?_
  · have := div64_any w (A / 2) (A * 9223372036854775808 % 18446744073709551616) B (by omega) hB2 (by omega)
    rw [show A / 2 * 18446744073709551616 + A * 9223372036854775808 % 18446744073709551616 = A * 9223372036854775808 by omega, hq, hr] at this
    exact this
  · refine ldexp_to w fb _ _ (ldexp_norm w fb (fb / 4503599627370496) (fb % 4503599627370496) ((fb / 4503599627370496 : Nat) + ((d : Int) - u - 63)).toNat _ _ rfl rfl (by omega) (by omega) (by omega) (by omega) (by omega) (by omega) (by omega) ?_)
    omega
  · rw [cast_shl, hA, Nat.mod_eq_of_lt hA2]
  · rw [cast_shl, hB, Nat.mod_eq_of_lt hB2]
  · have := cast_shl A 63
    rw [show (2 : Nat) ^ 63 = 9223372036854775808 by decide] at this
    exact this
  · have := of_decide_eq_false h
    unfold stick
    rw [if_neg (by omega)]
  · rw [← hf1]
    show FloatKind.f64.format.write (.number (((stick q r : Nat) : Int) < 0) ((stick q r : Nat) : Int).natAbs 0) = _
    rw [decide_eq_false (by omega), Int.natAbs_natCast]
    rfl

set_option maxHeartbeats 400000 in
theorem sizeP_any (w : World) (a : Int) (h0 : -9223372036854775808 ≤ a) (h1 : a ≤ 9223372036854775807) : Calls Tryd.prog 69 #[.int .i64 a] w fun e w' => e = .returned (.int .u64 (a.natAbs : Int)) ∧ w = w' := by
  rcases Int.lt_or_le a 0 with h | h
  · have HA : Hid ((a.natAbs : Int) = -a) := Lib.hid (by omega)
    have E1 : IntKind.u64.wrap (-IntKind.u64.wrap a) = -a := by simp only [IntKind.wrap_u64]; omega
    have q : decide (a < 0) = true := decide_eq_true h
    generalize a.natAbs = n at *
    go_enter Tryd.func69, Tryd.ntmps69
    go_wp2
    go_ret
    exact ⟨ret_int (by rw [HA.out]), rfl⟩
  · have HA : Hid ((a.natAbs : Int) = a) := Lib.hid (by omega)
    have E1 : IntKind.u64.wrap a = a := u64_in (by omega) (by omega)
    have q : decide (a < 0) = false := decide_eq_false (by omega)
    generalize a.natAbs = n at *
    go_enter Tryd.func69, Tryd.ntmps69
    go_wp2
    go_ret
    exact ⟨ret_int (by rw [HA.out]), rfl⟩

def VQ (w : World) (v : Value) (e : Ending) (w' : World) : Prop := e = .returned v ∧ ∃ n, w' = w.drewN n

set_option maxHeartbeats 800000 in
theorem ratioP_pp (w : World) (a b : Int) (ha : -9223372036854775808 ≤ a) (ha' : a ≤ 9223372036854775807) (hb : -9223372036854775808 ≤ b) (hb' : b ≤ 9223372036854775807) (h0 : b ≠ 0) (hz : a ≠ 0) (qa : decide (a < 0) = false) (qb : decide (b < 0) = false) :
    Calls Tryd.prog 28 #[.int .i64 a, .int .i64 b] w (VQ w (ratioV a b)) := by
  have HV : Hid (ratioV a b = .tuple #[.float .f64 (nearB a.natAbs b.natAbs), .int .i64 0]) := Lib.hid (by unfold ratioV; rw [if_neg h0, ratioB_same (by rw [qa, qb])])
  have q1 : (b == 0) = false := by simp [h0]
  have q2 : (a == 0) = false := by simp [hz]
  have H1 := Lib.hid (fun w => sizeP_any w a ha ha')
  have H2 := Lib.hid (fun w => sizeP_any w b hb hb')
  have H3 := Lib.hid (fun w => quotP_any w a.natAbs b.natAbs (by omega) (by omega) (by omega) (by omega))
  generalize ratioV a b = R at *
  generalize a.natAbs = na at *
  generalize b.natAbs = nb at *
  clear ha ha' hb hb' h0 hz
  go_enter Tryd.func28, Tryd.ntmps28
  go_wp2_with fail
  refine (H1.out _).mono ?_
  rintro e w1 ⟨rfl, rfl⟩
  go_wp2_with fail
  refine (H2.out _).mono ?_
  rintro e w1 ⟨rfl, rfl⟩
  go_wp2_with fail
  refine (H3.out _).mono ?_
  rintro e w1 ⟨rfl, n, rfl⟩
  go_wp2
  go_ret2
  exact ⟨by rw [HV.out]; rfl, _, rfl⟩

set_option maxHeartbeats 800000 in
theorem ratioP_pn (w : World) (a b : Int) (ha : -9223372036854775808 ≤ a) (ha' : a ≤ 9223372036854775807) (hb : -9223372036854775808 ≤ b) (hb' : b ≤ 9223372036854775807) (h0 : b ≠ 0) (hz : a ≠ 0) (qa : decide (a < 0) = false) (qb : decide (b < 0) = true) :
    Calls Tryd.prog 28 #[.int .i64 a, .int .i64 b] w (VQ w (ratioV a b)) := by
  have HV : Hid (ratioV a b = .tuple #[.float .f64 (turnB (nearB a.natAbs b.natAbs)), .int .i64 0]) := Lib.hid (by unfold ratioV; rw [if_neg h0, ratioB_turn hz (by rw [qa, qb]; decide)])
  have q1 : (b == 0) = false := by simp [h0]
  have q2 : (a == 0) = false := by simp [hz]
  have H1 := Lib.hid (fun w => sizeP_any w a ha ha')
  have H2 := Lib.hid (fun w => sizeP_any w b hb hb')
  have H3 := Lib.hid (fun w => quotP_any w a.natAbs b.natAbs (by omega) (by omega) (by omega) (by omega))
  have HNG := Lib.hid (neg_near (N := a.natAbs) (M := b.natAbs) (by omega) (by omega) (by omega))
  generalize ratioV a b = R at *
  generalize a.natAbs = na at *
  generalize b.natAbs = nb at *
  clear ha ha' hb hb' h0 hz
  go_enter Tryd.func28, Tryd.ntmps28
  go_wp2_with fail
  refine (H1.out _).mono ?_
  rintro e w1 ⟨rfl, rfl⟩
  go_wp2_with fail
  refine (H2.out _).mono ?_
  rintro e w1 ⟨rfl, rfl⟩
  go_wp2_with fail
  refine (H3.out _).mono ?_
  rintro e w1 ⟨rfl, n, rfl⟩
  go_wp2_with fail
  rw [run_negf, HNG.out]
  simp only [Result.andThen]
  rw [Oper.upon_value]
  go_wp2
  go_ret2
  exact ⟨by rw [HV.out]; rfl, _, rfl⟩

set_option maxHeartbeats 800000 in
theorem ratioP_np (w : World) (a b : Int) (ha : -9223372036854775808 ≤ a) (ha' : a ≤ 9223372036854775807) (hb : -9223372036854775808 ≤ b) (hb' : b ≤ 9223372036854775807) (h0 : b ≠ 0) (hz : a ≠ 0) (qa : decide (a < 0) = true) (qb : decide (b < 0) = false) :
    Calls Tryd.prog 28 #[.int .i64 a, .int .i64 b] w (VQ w (ratioV a b)) := by
  have HV : Hid (ratioV a b = .tuple #[.float .f64 (turnB (nearB a.natAbs b.natAbs)), .int .i64 0]) := Lib.hid (by unfold ratioV; rw [if_neg h0, ratioB_turn hz (by rw [qa, qb]; decide)])
  have q1 : (b == 0) = false := by simp [h0]
  have q2 : (a == 0) = false := by simp [hz]
  have H1 := Lib.hid (fun w => sizeP_any w a ha ha')
  have H2 := Lib.hid (fun w => sizeP_any w b hb hb')
  have H3 := Lib.hid (fun w => quotP_any w a.natAbs b.natAbs (by omega) (by omega) (by omega) (by omega))
  have HNG := Lib.hid (neg_near (N := a.natAbs) (M := b.natAbs) (by omega) (by omega) (by omega))
  generalize ratioV a b = R at *
  generalize a.natAbs = na at *
  generalize b.natAbs = nb at *
  clear ha ha' hb hb' h0 hz
  go_enter Tryd.func28, Tryd.ntmps28
  go_wp2_with fail
  refine (H1.out _).mono ?_
  rintro e w1 ⟨rfl, rfl⟩
  go_wp2_with fail
  refine (H2.out _).mono ?_
  rintro e w1 ⟨rfl, rfl⟩
  go_wp2_with fail
  refine (H3.out _).mono ?_
  rintro e w1 ⟨rfl, n, rfl⟩
  go_wp2_with fail
  rw [run_negf, HNG.out]
  simp only [Result.andThen]
  rw [Oper.upon_value]
  go_wp2
  go_ret2
  exact ⟨by rw [HV.out]; rfl, _, rfl⟩

set_option maxHeartbeats 800000 in
theorem ratioP_nn (w : World) (a b : Int) (ha : -9223372036854775808 ≤ a) (ha' : a ≤ 9223372036854775807) (hb : -9223372036854775808 ≤ b) (hb' : b ≤ 9223372036854775807) (h0 : b ≠ 0) (hz : a ≠ 0) (qa : decide (a < 0) = true) (qb : decide (b < 0) = true) :
    Calls Tryd.prog 28 #[.int .i64 a, .int .i64 b] w (VQ w (ratioV a b)) := by
  have HV : Hid (ratioV a b = .tuple #[.float .f64 (nearB a.natAbs b.natAbs), .int .i64 0]) := Lib.hid (by unfold ratioV; rw [if_neg h0, ratioB_same (by rw [qa, qb])])
  have q1 : (b == 0) = false := by simp [h0]
  have q2 : (a == 0) = false := by simp [hz]
  have H1 := Lib.hid (fun w => sizeP_any w a ha ha')
  have H2 := Lib.hid (fun w => sizeP_any w b hb hb')
  have H3 := Lib.hid (fun w => quotP_any w a.natAbs b.natAbs (by omega) (by omega) (by omega) (by omega))
  generalize ratioV a b = R at *
  generalize a.natAbs = na at *
  generalize b.natAbs = nb at *
  clear ha ha' hb hb' h0 hz
  go_enter Tryd.func28, Tryd.ntmps28
  go_wp2_with fail
  refine (H1.out _).mono ?_
  rintro e w1 ⟨rfl, rfl⟩
  go_wp2_with fail
  refine (H2.out _).mono ?_
  rintro e w1 ⟨rfl, rfl⟩
  go_wp2_with fail
  refine (H3.out _).mono ?_
  rintro e w1 ⟨rfl, n, rfl⟩
  go_wp2
  go_ret2
  exact ⟨by rw [HV.out]; rfl, _, rfl⟩

set_option maxHeartbeats 800000 in
theorem ratioP_any (w : World) (a b : Int) (ha : -9223372036854775808 ≤ a) (ha' : a ≤ 9223372036854775807) (hb : -9223372036854775808 ≤ b) (hb' : b ≤ 9223372036854775807) :
    Calls Tryd.prog 28 #[.int .i64 a, .int .i64 b] w (VQ w (ratioV a b)) := by
  by_cases h0 : b = 0
  · have HV : Hid (ratioV a b = .tuple #[.float .f64 0, .int .i64 5]) := Lib.hid (by unfold ratioV; rw [if_pos h0])
    have q1 : (b == 0) = true := by simp [h0]
    generalize ratioV a b = R at *
    clear h0
    go_enter Tryd.func28, Tryd.ntmps28
    go_wp2
    go_ret2
    exact ⟨by rw [HV.out]; rfl, 0, rfl⟩
  by_cases hz : a = 0
  · have HV : Hid (ratioV a b = .tuple #[.float .f64 0, .int .i64 0]) := Lib.hid (by unfold ratioV; rw [if_neg h0, hz, ratioB_zero])
    have q1 : (b == 0) = false := by simp [h0]
    have q2 : (a == 0) = true := by simp [hz]
    generalize ratioV a b = R at *
    clear h0 hz
    go_enter Tryd.func28, Tryd.ntmps28
    go_wp2
    go_ret2
    exact ⟨by rw [HV.out]; rfl, 0, rfl⟩
  rcases qa : decide (a < 0) with _ | _
  · rcases qb : decide (b < 0) with _ | _
    · exact ratioP_pp w a b ha ha' hb hb' h0 hz qa qb
    · exact ratioP_pn w a b ha ha' hb hb' h0 hz qa qb
  · rcases qb : decide (b < 0) with _ | _
    · exact ratioP_np w a b ha ha' hb hb' h0 hz qa qb
    · exact ratioP_nn w a b ha ha' hb hb' h0 hz qa qb

set_option maxHeartbeats 800000 in
theorem secP_any (w : World) (t hz : Int) (ha : -9223372036854775808 ≤ t) (ha' : t ≤ 9223372036854775807) (hb : -9223372036854775808 ≤ hz) (hb' : hz ≤ 9223372036854775807) :
    Calls Tryd.prog 26 #[.int .i64 t, .int .i64 hz] w (VQ w (secV t hz)) := by
  have HC := Lib.hid (fun w => isHzP_any w hz)
  by_cases h1 : t < 0
  · have HV : Hid (secV t hz = .tuple #[.float .f64 0, .int .i64 1]) := Lib.hid (by unfold secV; rw [if_pos (.inl (isTick_not.2 (.inl h1)))])
    have q1 : decide (t < 0) = true := decide_eq_true h1
    generalize secV t hz = R at *
    clear h1
    go_enter Tryd.func26, Tryd.ntmps26
    go_wp2
    go_ret2
    exact ⟨by rw [HV.out]; rfl, 0, rfl⟩
  have q1 : decide (t < 0) = false := decide_eq_false h1
  by_cases h2 : 4611686018427387903 < t
  · have HV : Hid (secV t hz = .tuple #[.float .f64 0, .int .i64 1]) := Lib.hid (by unfold secV; rw [if_pos (.inl (isTick_not.2 (.inr h2)))])
    have q2 : decide (4611686018427387903 < t) = true := decide_eq_true h2
    generalize secV t hz = R at *
    clear h1 h2
    go_enter Tryd.func26, Tryd.ntmps26
    go_wp2
    go_ret2
    exact ⟨by rw [HV.out]; rfl, 0, rfl⟩
  have q2 : decide (4611686018427387903 < t) = false := decide_eq_false h2
  rcases hh : hzB hz with _ | _
  · have HV : Hid (secV t hz = .tuple #[.float .f64 0, .int .i64 1]) := Lib.hid (by unfold secV; rw [if_pos (by have := of_decide_eq_false hh; omega)])
    rw [hh] at HC
    generalize secV t hz = R at *
    clear h1 h2
    go_enter Tryd.func26, Tryd.ntmps26
    go_wp2_with fail
    refine (HC.out _).mono ?_
    rintro e w1 ⟨rfl, rfl⟩
    go_wp2
    go_ret2
    exact ⟨by rw [HV.out]; rfl, 0, rfl⟩
  · have h3 := of_decide_eq_true hh
    have HV : Hid (secV t hz = ratioV t hz) := Lib.hid (by
      unfold secV ratioV
      rw [if_neg (by rw [isTick_iff.2 ⟨by omega, by omega⟩]; simp; omega), if_neg (by omega)])
    have HR := Lib.hid (fun w => ratioP_any w t hz ha ha' hb hb')
    have HW : Hid (∃ x, ratioV t hz = .tuple #[.float .f64 x, .int .i64 0]) := Lib.hid ⟨_, by unfold ratioV; rw [if_neg (by omega)]⟩
    obtain ⟨x, hx⟩ := HW.out
    rw [hx] at HR HV
    rw [hh] at HC
    generalize secV t hz = R at *
    clear h1 h2 h3 hx HW
    go_enter Tryd.func26, Tryd.ntmps26
    go_wp2_with fail
    refine (HC.out _).mono ?_
    rintro e w1 ⟨rfl, rfl⟩
    go_wp2_with fail
    refine (HR.out _).mono ?_
    rintro e w1 ⟨rfl, n, rfl⟩
    go_wp2
    go_ret2
    exact ⟨by rw [HV.out]; rfl, _, rfl⟩
end Go.Proofs.YtafboimlchjnaaaDoor
