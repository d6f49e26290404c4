/- The law TickClamps, and the contracts of the document's Clamp and of the law's awake. -/
import Derived.Test.YtjgnldalmenahaaTick
import Derived.Test.YtjgnldalmenahaaComp
namespace Go.Proofs.Ytjgnldalmenahaa
open Go.RowKit

theorem heldV_clamp (m : Nat) : heldV m = clampV (m : Int) := by
  unfold heldV clampV
  split <;> split <;> try split
  all_goals omega

set_option maxHeartbeats 400000 in
theorem rclamp_any (w : World) (a : Int) (h : a ≤ 9223372036854775807) : Calls Try.prog 27 #[.int .i64 a] w fun e w' => e = .returned (.int .i64 (clampV a)) ∧ Below w.heap.size w w' := by
  rcases Int.lt_or_le a 0 with h1 | h1
  · have HD := Lib.hid (clampV_lo h1)
    go_enter Try.func27, Try.ntmps27
    go_wp2
    go_ret
    exact ⟨by rw [HD.out]; rfl, Below.refl _ _⟩
  · obtain ⟨m, rfl⟩ := Int.eq_ofNat_of_zero_le h1
    have HD := Lib.hid (heldV_clamp m)
    go_enter Try.func27, Try.ntmps27
    go_wp2_with fail
    refine (word_any _ m (by omega)).mono ?_
    rintro e w1 ⟨A, n, c, xs, rfl, hnum, _, hb⟩
    go_wp2_with fail
    refine (held_any _ _ _ _ _ m hnum).mono ?_
    rintro e w2 ⟨rfl, rfl⟩
    go_wp2
    go_ret
    exact ⟨by rw [← HD.out]; rfl, hb⟩

set_option maxHeartbeats 400000 in
theorem tdiv_ok (w : World) (a b : Nat) (ha : a ≤ 4611686018427387903) (hb : b ≤ 4611686018427387903) (h0 : 1 ≤ b) :
    Calls Try.prog 20 #[.int .i64 (a : Int), .int .i64 (b : Int)] w fun e w' => e = .returned (.tuple #[.int .i64 ((a / b : Nat) : Int), .int .i64 ((a % b : Nat) : Int), .int .i64 0]) ∧ ∃ t, w' = w.drewN t := by
  have h1 : isTick (a : Int) = true := isTick_iff.2 ⟨by omega, by omega⟩
  have h2 : isTick (b : Int) = true := isTick_iff.2 ⟨by omega, by omega⟩
  have hq := Nat.div_le_self a b
  have hr := Nat.mod_lt a (show 0 < b by omega)
  have hqi : wrap64 ((a : Int) / (b : Int)) = ((a / b : Nat) : Int) := by
    rw [show (a : Int) / (b : Int) = ((a / b : Nat) : Int) by simp]
    have h0 := Int.natCast_nonneg (a / b)
    exact IntWalk.wrap64_in _ ⟨by omega, by omega⟩
  have hri : (a : Int) % (b : Int) = ((a % b : Nat) : Int) := by simp
  have HQ := Lib.hid hqi
  have HR := Lib.hid hri
  have hd : ((b : Int) == 0) = false := by simp; omega
  clear hqi hri
  go_enter Try.func20, Try.ntmps20
  go_wp2_with fail
  refine (tform_any _ (a : Int)).mono ?_
  rintro e w1 ⟨rfl, rfl⟩
  go_wp2_with fail
  refine (tform_any _ (b : Int)).mono ?_
  rintro e w1 ⟨rfl, rfl⟩
  go_wp2_with fail
  go_quiet (fail)
  go_wp2
  go_ret3
  exact ⟨ret_iii HQ.out HR.out rfl, _, rfl⟩

set_option maxHeartbeats 400000 in
theorem tdiv_bad (w : World) (a b : Int) (h : isTick a = false ∨ isTick b = false ∨ b = 0) :
    Calls Try.prog 20 #[.int .i64 a, .int .i64 b] w fun e w' => e = .returned (.tuple #[.int .i64 0, .int .i64 0, .int .i64 1]) ∧ w = w' := by
  rcases Bool.eq_false_or_eq_true (isTick a) with h1 | h1
  · rcases Bool.eq_false_or_eq_true (isTick b) with h2 | h2
    · have hb : b = 0 := by simpa [h1, h2] using h
      subst hb
      clear h
      go_enter Try.func20, Try.ntmps20
      go_wp2_with fail
      refine (tform_any _ a).mono ?_
      rintro e w1 ⟨rfl, rfl⟩
      go_wp2_with fail
      refine (tform_any _ 0).mono ?_
      rintro e w1 ⟨rfl, rfl⟩
      go_wp2
      go_ret3
      exact ⟨rfl, rfl⟩
    · clear h
      go_enter Try.func20, Try.ntmps20
      go_wp2_with fail
      refine (tform_any _ a).mono ?_
      rintro e w1 ⟨rfl, rfl⟩
      go_wp2_with fail
      refine (tform_any _ b).mono ?_
      rintro e w1 ⟨rfl, rfl⟩
      go_wp2
      go_ret3
      exact ⟨rfl, rfl⟩
  · clear h
    go_enter Try.func20, Try.ntmps20
    go_wp2_with fail
    refine (tform_any _ a).mono ?_
    rintro e w1 ⟨rfl, rfl⟩
    go_wp2
    go_ret3
    exact ⟨rfl, rfl⟩

set_option maxHeartbeats 400000 in
theorem awake1_any (w : World) : Calls Try.prog 15 #[] w fun e w' => e = .returned (.bool true) ∧ ∃ t, w' = w.drewN t := by
  go_enter Try.func15, Try.ntmps15
  go_wp2_with (first | (go_at_call 20; refine (tdiv_ok _ 7 2 (by omega) (by omega) (by omega)).mono ?_; rintro e w1 ⟨rfl, t, rfl⟩) | go_in)
  go_ret
  exact ⟨rfl, _, rfl⟩

set_option maxHeartbeats 400000 in
theorem tickClamps_walk (a : Int) (w : World) (wa : (Lit.int .i64 a).wf = true) :
    Calls Try.prog 5 #[.int .i64 a] w fun e w' => e = .returned (.bool true) ∧ Below w.heap.size w w' := by
  have hbd := bounds_i64 wa
  have ht : isTick (clampV a) = true := isTick_iff.2 (clampV_bd a)
  clear wa
  go_enter Try.func5, Try.ntmps5
  go_wp2_with fail
  refine (awake1_any _).mono ?_
  rintro e w1 ⟨rfl, t, rfl⟩
  go_wp2_with fail
  refine (tform_any _ a).mono ?_
  rintro e w1 ⟨rfl, rfl⟩
  go_wp2_with fail
  refine (rform_any _ a).mono ?_
  rintro e w1 ⟨rfl, rfl⟩
  go_wp2_with fail
  refine (tclamp_any _ a).mono ?_
  rintro e w1 ⟨rfl, rfl⟩
  go_wp2_with fail
  refine (rclamp_any _ a hbd.2).mono ?_
  rintro e w1 ⟨rfl, hb⟩
  go_wp2_with fail
  refine (tclamp_any _ a).mono ?_
  rintro e w2 ⟨rfl, rfl⟩
  go_wp2_with fail
  refine (tform_any _ (clampV a)).mono ?_
  rintro e w2 ⟨rfl, rfl⟩
  go_wp2
  go_ret
  exact ⟨rfl, (below_drewN (Below.refl _ _) t).trans (by simpa using hb)⟩
end Go.Proofs.Ytjgnldalmenahaa
