/- The walk of RealMeets. -/
import Derived.Test.YtafboimlchjnaaaDoorLaws3b
import Derived.Test.YtafboimlchjnaaaDoorMeetM
namespace Go.Proofs.YtafboimlchjnaaaDoor
open Go.RowKit
set_option maxRecDepth 100000

theorem and50 (n : Int) : Go.bits BinOp.and IntKind.i64 n 1125899906842623 = n % 1125899906842624 := by
  have h50 : (BitVec.ofInt 64 1125899906842623).toNat = 2 ^ 50 - 1 := by decide
  have key : (BitVec.ofInt 64 n &&& BitVec.ofInt 64 1125899906842623).toNat = (n % ((2 ^ 64 : Nat) : Int)).toNat % 2 ^ 50 := by
    rw [BitVec.toNat_and, BitVec.toNat_ofInt, h50, Nat.and_two_pow_sub_one_eq_mod]
  show IntKind.i64.wrap ((BitVec.ofInt 64 n &&& BitVec.ofInt 64 1125899906842623).toNat : Nat) = n % 1125899906842624
  rw [key, IntKind.wrap_i64]
  omega

set_option maxHeartbeats 1600000 in
theorem realMeets_in (w : World) (a : Int) (t hz : Nat) (ht : Go.bits BinOp.and IntKind.i64 a 1125899906842623 = (t : Int)) (hl : t < 1125899906842624) (h1 : 1 ≤ hz) (h2 : hz ≤ 1000000000) (hT : Tab w) : Calls Tryd.prog 10 #[.int .i64 a, .int .i64 (hz : Int)] w fun e w' => e = .returned (.bool true) ∧ Below w.heap.size w w' := by
  have hm := meets hl h1 h2
  have hs : secV t hz = .tuple #[.float .f64 (ratioB t hz), .int .i64 0] := by
    unfold secV
    rw [if_neg (by rw [isTick_iff.2 ⟨by omega, by omega⟩]; simp; omega)]
  have hr := ratioB_le (a := t) (b := hz) (by omega) (by omega) (by omega) (by omega) (by omega)
  have HT := Lib.hid hT
  have HA := Lib.hid (fun w hT => awake3_any w hT)
  have H1 := Lib.hid (fun w => secP_any w t hz (by omega) (by omega) (by omega) (by omega))
  have H2 := Lib.hid (fun w hT => ticksP_any w (ratioB t hz) hz 2 hr hT)
  have H3 := Lib.hid (fun w => rform_any w t)
  rw [hs] at H1
  rw [hm] at H2
  rw [isTick_iff.2 ⟨by omega, by omega⟩] at H3
  have q1 : decide ((hz : Int) < 1) = false := decide_eq_false (by omega)
  have q2 : decide ((1000000000 : Int) < (hz : Int)) = false := decide_eq_false (by omega)
  clear hm hs hT hr hl h1 h2
  generalize ratioB t hz = s at *
  go_enter Tryd.func10, Tryd.ntmps10
  go_wp2_with fail
  refine (HA.out _ HT.out).mono ?_
  rintro e w1 ⟨rfl, hb1⟩
  have HT1 := Lib.hid (HT.out.below hb1)
  have HB1 := Lib.hid hb1
  clear hb1
  go_wp2_with fail
  refine (H1.out _).mono ?_
  rintro e w2 ⟨rfl, n, rfl⟩
  go_wp2_with fail
  refine (H2.out _ (HT1.out.drewN n)).mono ?_
  rintro e w2 ⟨rfl, hb2⟩
  have HB2 := Lib.hid ((below_drewN HB1.out n).trans (hb2.mono HB1.out.size))
  clear hb2
  go_wp2_with fail
  refine (H3.out _).mono ?_
  rintro e w3 ⟨rfl, rfl⟩
  go_wp2
  go_ret
  exact ⟨rfl, HB2.out⟩

set_option maxHeartbeats 1600000 in
theorem realMeets_out (w : World) (a hz : Int) (t : Nat) (ht : Go.bits BinOp.and IntKind.i64 a 1125899906842623 = (t : Int)) (hl : t < 1125899906842624) (hh : hz < 1 ∨ 1000000000 < hz) (b1 : -9223372036854775808 ≤ hz) (b2 : hz ≤ 9223372036854775807) (hT : Tab w) : Calls Tryd.prog 10 #[.int .i64 a, .int .i64 hz] w fun e w' => e = .returned (.bool true) ∧ Below w.heap.size w w' := by
  have hs : secV t hz = .tuple #[.float .f64 0, .int .i64 1] := by
    unfold secV
    rw [if_pos (.inr hh)]
  have HT := Lib.hid hT
  have HA := Lib.hid (fun w hT => awake3_any w hT)
  have H1 := Lib.hid (fun w => secP_any w t hz (by omega) (by omega) (by omega) (by omega))
  have H2 := Lib.hid (fun w => sameP_any w 0 0 (by omega) (by omega))
  rw [hs] at H1
  rw [sameB_refl] at H2
  have qq : decide (hz < 1) = true ∨ (decide (hz < 1) = false ∧ decide (1000000000 < hz) = true) := by
    rcases hh with h | h
    · exact .inl (decide_eq_true h)
    · exact .inr ⟨decide_eq_false (by omega), decide_eq_true h⟩
  clear hs hT hl hh b1 b2
  rcases qq with q1 | ⟨q1, q2⟩
  all_goals
    go_enter Tryd.func10, Tryd.ntmps10
    go_wp2_with fail
    refine (HA.out _ HT.out).mono ?_
    rintro e w1 ⟨rfl, hb1⟩
    have HB1 := Lib.hid hb1
    clear hb1
    go_wp2_with fail
    refine (H1.out _).mono ?_
    rintro e w2 ⟨rfl, n, rfl⟩
    go_wp2_with fail
    refine (H2.out _).mono ?_
    rintro e w2 ⟨rfl, rfl⟩
    go_wp2
    go_ret
    exact ⟨rfl, below_drewN HB1.out n⟩

theorem realMeets_walk (a hz : Int) (w : World) (_wa : (Lit.int .i64 a).wf = true) (wb : (Lit.int .i64 hz).wf = true) (hT : Tab w) : Calls Tryd.prog 10 #[.int .i64 a, .int .i64 hz] w fun e w' => e = .returned (.bool true) ∧ Below w.heap.size w w' := by
  obtain ⟨b1, b2⟩ := bounds_i64 wb
  obtain ⟨t, ht⟩ : ∃ t : Nat, a % 1125899906842624 = (t : Int) := ⟨(a % 1125899906842624).toNat, by omega⟩
  have h := and50 a
  rw [ht] at h
  by_cases hh : hz < 1 ∨ 1000000000 < hz
  · exact realMeets_out w a hz t h (by omega) hh b1 b2 hT
  · obtain ⟨z, rfl⟩ : ∃ z : Nat, hz = (z : Int) := ⟨hz.toNat, by omega⟩
    exact realMeets_in w a t z h (by omega) (by omega) (by omega) hT
end Go.Proofs.YtafboimlchjnaaaDoor
