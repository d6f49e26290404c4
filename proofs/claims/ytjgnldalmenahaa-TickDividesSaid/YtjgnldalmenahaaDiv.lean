/- The law TickDivides. -/
import Derived.Test.YtjgnldalmenahaaLaws
import Derived.WalkLawsBesides
namespace Go.Proofs.Ytjgnldalmenahaa
open Go.RowKit

set_option maxHeartbeats 800000 in
theorem divides_posB (w : World) (x y : Int) (a b q r : Nat) (u v : Int) (CA : Hid (clampV x = (a : Int))) (CB : Hid (clampV y = (b : Int))) (ha : a ≤ 4611686018427387903) (hb : b ≤ 4611686018427387903) (hb1 : 1 ≤ b)
    (HQ : Hid (a / b = q)) (HR : Hid (a % b = r)) (hq : q ≤ 4611686018427387902) (hr : 1 ≤ r) (hrb : r < b) (hrm : r ≤ 4611686018427387903)
    (Bq : Hid (0 ≤ ((q : Nat) : Int) ∧ ((q : Nat) : Int) ≤ 4611686018427387903)) (Bb : Hid (0 ≤ (b : Int) ∧ (b : Int) ≤ 4611686018427387903)) (Br : Hid (0 ≤ ((r : Nat) : Int) ∧ ((r : Nat) : Int) ≤ 4611686018427387903)) (Bc : Hid (0 ≤ ((q : Int) + 1) ∧ ((q : Int) + 1) ≤ 4611686018427387903)) (Bu : Hid (0 ≤ u ∧ u ≤ 4611686018427387903))
    (P1 : Hid (clampV (((q : Nat) : Int) * (b : Int)) = u)) (S1 : Hid (clampV (u + ((r : Nat) : Int)) = (a : Int))) (P2 : Hid (clampV (((q : Int) + 1) * (b : Int)) = v)) (hv : (a : Int) ≤ v) (hdd : u < (a : Int)) :
    Calls Try.prog 7 #[.int .i64 x, .int .i64 y] w fun e w' => e = .returned (.bool true) ∧ Below w.heap.size w w' := by
  have HU := Lib.hid (upV_pos (q := q) (r := r) hr)
  go_enter Try.func7, Try.ntmps7
  go_wp2_with fail
  refine (awake1_any _).mono ?_
  rintro e w1 ⟨rfl, t1, rfl⟩
  go_wp2_with fail
  refine (tclamp_to _ x (a : Int) CA.out).mono ?_
  rintro e w1 ⟨rfl, rfl⟩
  go_wp2_with fail
  refine (tclamp_to _ y (b : Int) CB.out).mono ?_
  rintro e w1 ⟨rfl, rfl⟩
  go_wp2_with fail
  refine (tdiv_qr _ a b q r HQ.out HR.out ha (by omega) (by omega)).mono ?_
  rintro e w1 ⟨rfl, t2, rfl⟩
  go_wp2_with fail
  refine (tceil_qr _ a b q r HQ.out HR.out ha (by omega) (by omega)).mono ?_
  rintro e w1 ⟨rfl, t3, rfl⟩
  rw [HU.out]
  go_wp2_with fail
  refine (product_to _ ((q : Nat) : Int) (b : Int) u Bq.out Bb.out P1.out).mono ?_
  rintro e w1 ⟨rfl, rfl⟩
  go_wp2_with fail
  refine (sum_to _ u ((r : Nat) : Int) (a : Int) Bu.out Br.out S1.out).mono ?_
  rintro e w1 ⟨rfl, rfl⟩
  go_wp2_with fail
  refine (product_to _ ((q : Int) + 1) (b : Int) v Bc.out Bb.out P2.out).mono ?_
  rintro e w1 ⟨rfl, rfl⟩
  go_wp2_with fail
  refine (product_to _ (q : Int) (b : Int) u Bq.out Bb.out P1.out).mono ?_
  rintro e w1 ⟨rfl, rfl⟩
  have k1 : ((q : Int) + 1 == q) = false := beq_eq_false_iff_ne.2 (by omega)
  have k2 : ((r : Int) == 0) = false := beq_eq_false_iff_ne.2 (by omega)
  go_wp2
  go_ret
  exact ⟨rfl, below_drewN (Below.refl _ _) _⟩

set_option maxHeartbeats 800000 in
theorem divides_mulB (w : World) (x y : Int) (a b q : Nat) (u v dd : Int) (CA : Hid (clampV x = (a : Int))) (CB : Hid (clampV y = (b : Int))) (ha : a ≤ 4611686018427387903) (hb : b ≤ 4611686018427387903) (hb1 : 1 ≤ b)
    (HQ : Hid (a / b = q)) (HR : Hid (a % b = 0)) (hq : q ≤ 4611686018427387903) (hq1 : 1 ≤ q) 
    (Bq : Hid (0 ≤ ((q : Nat) : Int) ∧ ((q : Nat) : Int) ≤ 4611686018427387903)) (Bb : Hid (0 ≤ (b : Int) ∧ (b : Int) ≤ 4611686018427387903)) (Br : Hid (0 ≤ ((0 : Nat) : Int) ∧ ((0 : Nat) : Int) ≤ 4611686018427387903)) (Bc : Hid (0 ≤ (q : Int) ∧ (q : Int) ≤ 4611686018427387903)) (Bu : Hid (0 ≤ u ∧ u ≤ 4611686018427387903))
    (P1 : Hid (clampV (((q : Nat) : Int) * (b : Int)) = u)) (S1 : Hid (clampV (u + ((0 : Nat) : Int)) = (a : Int))) (P2 : Hid (clampV ((q : Int) * (b : Int)) = v)) (hv : (a : Int) ≤ v) (Bd : Hid (0 ≤ (q : Int) - 1 ∧ (q : Int) - 1 ≤ 4611686018427387903)) (P3 : Hid (clampV (((q : Int) - 1) * (b : Int)) = dd)) (hdd : dd < (a : Int)) :
    Calls Try.prog 7 #[.int .i64 x, .int .i64 y] w fun e w' => e = .returned (.bool true) ∧ Below w.heap.size w w' := by
  go_enter Try.func7, Try.ntmps7
  go_wp2_with fail
  refine (awake1_any _).mono ?_
  rintro e w1 ⟨rfl, t1, rfl⟩
  go_wp2_with fail
  refine (tclamp_to _ x (a : Int) CA.out).mono ?_
  rintro e w1 ⟨rfl, rfl⟩
  go_wp2_with fail
  refine (tclamp_to _ y (b : Int) CB.out).mono ?_
  rintro e w1 ⟨rfl, rfl⟩
  go_wp2_with fail
  refine (tdiv_qr _ a b q 0 HQ.out HR.out ha (by omega) (by omega)).mono ?_
  rintro e w1 ⟨rfl, t2, rfl⟩
  go_wp2_with fail
  refine (tceil_qr _ a b q 0 HQ.out HR.out ha (by omega) (by omega)).mono ?_
  rintro e w1 ⟨rfl, t3, rfl⟩
  rw [upV_zero]
  go_wp2_with fail
  refine (product_to _ ((q : Nat) : Int) (b : Int) u Bq.out Bb.out P1.out).mono ?_
  rintro e w1 ⟨rfl, rfl⟩
  go_wp2_with fail
  refine (sum_to _ u ((0 : Nat) : Int) (a : Int) Bu.out Br.out S1.out).mono ?_
  rintro e w1 ⟨rfl, rfl⟩
  go_wp2_with fail
  refine (product_to _ (q : Int) (b : Int) v Bc.out Bb.out P2.out).mono ?_
  rintro e w1 ⟨rfl, rfl⟩
  go_wp2_with fail
  refine (product_to _ ((q : Int) - 1) (b : Int) dd Bd.out Bb.out P3.out).mono ?_
  rintro e w1 ⟨rfl, rfl⟩
  go_wp2
  go_ret
  exact ⟨rfl, below_drewN (Below.refl _ _) _⟩

set_option maxHeartbeats 800000 in
theorem divides_zeroB (w : World) (x y : Int) (a b : Nat) (u v : Int) (CA : Hid (clampV x = (a : Int))) (CB : Hid (clampV y = (b : Int))) (ha : a ≤ 4611686018427387903) (hb : b ≤ 4611686018427387903) (hb1 : 1 ≤ b)
    (HQ : Hid (a / b = 0)) (HR : Hid (a % b = 0)) 
    (Bq : Hid (0 ≤ ((0 : Nat) : Int) ∧ ((0 : Nat) : Int) ≤ 4611686018427387903)) (Bb : Hid (0 ≤ (b : Int) ∧ (b : Int) ≤ 4611686018427387903)) (Br : Hid (0 ≤ ((0 : Nat) : Int) ∧ ((0 : Nat) : Int) ≤ 4611686018427387903)) (Bc : Hid (0 ≤ (0 : Int) ∧ (0 : Int) ≤ 4611686018427387903)) (Bu : Hid (0 ≤ u ∧ u ≤ 4611686018427387903))
    (P1 : Hid (clampV (((0 : Nat) : Int) * (b : Int)) = u)) (S1 : Hid (clampV (u + ((0 : Nat) : Int)) = (a : Int))) (P2 : Hid (clampV ((0 : Int) * (b : Int)) = v)) (hv : (a : Int) ≤ v) :
    Calls Try.prog 7 #[.int .i64 x, .int .i64 y] w fun e w' => e = .returned (.bool true) ∧ Below w.heap.size w w' := by
  go_enter Try.func7, Try.ntmps7
  go_wp2_with fail
  refine (awake1_any _).mono ?_
  rintro e w1 ⟨rfl, t1, rfl⟩
  go_wp2_with fail
  refine (tclamp_to _ x (a : Int) CA.out).mono ?_
  rintro e w1 ⟨rfl, rfl⟩
  go_wp2_with fail
  refine (tclamp_to _ y (b : Int) CB.out).mono ?_
  rintro e w1 ⟨rfl, rfl⟩
  go_wp2_with fail
  refine (tdiv_qr _ a b 0 0 HQ.out HR.out ha (by omega) (by omega)).mono ?_
  rintro e w1 ⟨rfl, t2, rfl⟩
  go_wp2_with fail
  refine (tceil_qr _ a b 0 0 HQ.out HR.out ha (by omega) (by omega)).mono ?_
  rintro e w1 ⟨rfl, t3, rfl⟩
  rw [upV_zero]
  go_wp2_with fail
  refine (product_to _ ((0 : Nat) : Int) (b : Int) u Bq.out Bb.out P1.out).mono ?_
  rintro e w1 ⟨rfl, rfl⟩
  go_wp2_with fail
  refine (sum_to _ u ((0 : Nat) : Int) (a : Int) Bu.out Br.out S1.out).mono ?_
  rintro e w1 ⟨rfl, rfl⟩
  go_wp2_with fail
  refine (product_to _ (0 : Int) (b : Int) v Bc.out Bb.out P2.out).mono ?_
  rintro e w1 ⟨rfl, rfl⟩
  go_wp2
  go_ret
  exact ⟨rfl, below_drewN (Below.refl _ _) _⟩

set_option maxHeartbeats 800000 in
theorem divides_mul1 (w : World) (x y : Int) (a q : Nat) (u v dd : Int) (CA : Hid (clampV x = (a : Int))) (CB : Hid (clampV y = 0)) (ha : a ≤ 4611686018427387903) 
    (HQ : Hid (a / 1 = q)) (HR : Hid (a % 1 = 0)) (hq : q ≤ 4611686018427387903) (hq1 : 1 ≤ q) 
    (Bq : Hid (0 ≤ ((q : Nat) : Int) ∧ ((q : Nat) : Int) ≤ 4611686018427387903)) (Bb : Hid (0 ≤ (1 : Int) ∧ (1 : Int) ≤ 4611686018427387903)) (Br : Hid (0 ≤ ((0 : Nat) : Int) ∧ ((0 : Nat) : Int) ≤ 4611686018427387903)) (Bc : Hid (0 ≤ (q : Int) ∧ (q : Int) ≤ 4611686018427387903)) (Bu : Hid (0 ≤ u ∧ u ≤ 4611686018427387903))
    (P1 : Hid (clampV (((q : Nat) : Int) * (1 : Int)) = u)) (S1 : Hid (clampV (u + ((0 : Nat) : Int)) = (a : Int))) (P2 : Hid (clampV ((q : Int) * (1 : Int)) = v)) (hv : (a : Int) ≤ v) (Bd : Hid (0 ≤ (q : Int) - 1 ∧ (q : Int) - 1 ≤ 4611686018427387903)) (P3 : Hid (clampV (((q : Int) - 1) * (1 : Int)) = dd)) (hdd : dd < (a : Int)) :
    Calls Try.prog 7 #[.int .i64 x, .int .i64 y] w fun e w' => e = .returned (.bool true) ∧ Below w.heap.size w w' := by
  go_enter Try.func7, Try.ntmps7
  go_wp2_with fail
  refine (awake1_any _).mono ?_
  rintro e w1 ⟨rfl, t1, rfl⟩
  go_wp2_with fail
  refine (tclamp_to _ x (a : Int) CA.out).mono ?_
  rintro e w1 ⟨rfl, rfl⟩
  go_wp2_with fail
  refine (tclamp_to _ y 0 CB.out).mono ?_
  rintro e w1 ⟨rfl, rfl⟩
  go_wp2_with fail
  refine (tdiv_qr _ a 1 q 0 HQ.out HR.out ha (by omega) (by omega)).mono ?_
  rintro e w1 ⟨rfl, t2, rfl⟩
  go_wp2_with fail
  refine (tceil_qr _ a 1 q 0 HQ.out HR.out ha (by omega) (by omega)).mono ?_
  rintro e w1 ⟨rfl, t3, rfl⟩
  rw [upV_zero]
  go_wp2_with fail
  refine (product_to _ ((q : Nat) : Int) (1 : Int) u Bq.out Bb.out P1.out).mono ?_
  rintro e w1 ⟨rfl, rfl⟩
  go_wp2_with fail
  refine (sum_to _ u ((0 : Nat) : Int) (a : Int) Bu.out Br.out S1.out).mono ?_
  rintro e w1 ⟨rfl, rfl⟩
  go_wp2_with fail
  refine (product_to _ (q : Int) (1 : Int) v Bc.out Bb.out P2.out).mono ?_
  rintro e w1 ⟨rfl, rfl⟩
  go_wp2_with fail
  refine (product_to _ ((q : Int) - 1) (1 : Int) dd Bd.out Bb.out P3.out).mono ?_
  rintro e w1 ⟨rfl, rfl⟩
  go_wp2
  go_ret
  exact ⟨rfl, below_drewN (Below.refl _ _) _⟩

set_option maxHeartbeats 800000 in
theorem divides_zero1 (w : World) (x y : Int) (a : Nat) (u v : Int) (CA : Hid (clampV x = (a : Int))) (CB : Hid (clampV y = 0)) (ha : a ≤ 4611686018427387903) 
    (HQ : Hid (a / 1 = 0)) (HR : Hid (a % 1 = 0)) 
    (Bq : Hid (0 ≤ ((0 : Nat) : Int) ∧ ((0 : Nat) : Int) ≤ 4611686018427387903)) (Bb : Hid (0 ≤ (1 : Int) ∧ (1 : Int) ≤ 4611686018427387903)) (Br : Hid (0 ≤ ((0 : Nat) : Int) ∧ ((0 : Nat) : Int) ≤ 4611686018427387903)) (Bc : Hid (0 ≤ (0 : Int) ∧ (0 : Int) ≤ 4611686018427387903)) (Bu : Hid (0 ≤ u ∧ u ≤ 4611686018427387903))
    (P1 : Hid (clampV (((0 : Nat) : Int) * (1 : Int)) = u)) (S1 : Hid (clampV (u + ((0 : Nat) : Int)) = (a : Int))) (P2 : Hid (clampV ((0 : Int) * (1 : Int)) = v)) (hv : (a : Int) ≤ v) :
    Calls Try.prog 7 #[.int .i64 x, .int .i64 y] w fun e w' => e = .returned (.bool true) ∧ Below w.heap.size w w' := by
  go_enter Try.func7, Try.ntmps7
  go_wp2_with fail
  refine (awake1_any _).mono ?_
  rintro e w1 ⟨rfl, t1, rfl⟩
  go_wp2_with fail
  refine (tclamp_to _ x (a : Int) CA.out).mono ?_
  rintro e w1 ⟨rfl, rfl⟩
  go_wp2_with fail
  refine (tclamp_to _ y 0 CB.out).mono ?_
  rintro e w1 ⟨rfl, rfl⟩
  go_wp2_with fail
  refine (tdiv_qr _ a 1 0 0 HQ.out HR.out ha (by omega) (by omega)).mono ?_
  rintro e w1 ⟨rfl, t2, rfl⟩
  go_wp2_with fail
  refine (tceil_qr _ a 1 0 0 HQ.out HR.out ha (by omega) (by omega)).mono ?_
  rintro e w1 ⟨rfl, t3, rfl⟩
  rw [upV_zero]
  go_wp2_with fail
  refine (product_to _ ((0 : Nat) : Int) (1 : Int) u Bq.out Bb.out P1.out).mono ?_
  rintro e w1 ⟨rfl, rfl⟩
  go_wp2_with fail
  refine (sum_to _ u ((0 : Nat) : Int) (a : Int) Bu.out Br.out S1.out).mono ?_
  rintro e w1 ⟨rfl, rfl⟩
  go_wp2_with fail
  refine (product_to _ (0 : Int) (1 : Int) v Bc.out Bb.out P2.out).mono ?_
  rintro e w1 ⟨rfl, rfl⟩
  go_wp2
  go_ret
  exact ⟨rfl, below_drewN (Below.refl _ _) _⟩

theorem tickDivides_walk (x y : Int) (w : World) (_ : (Lit.int .i64 x).wf = true) (_ : (Lit.int .i64 y).wf = true) :
    Calls Try.prog 7 #[.int .i64 x, .int .i64 y] w fun e w' => e = .returned (.bool true) ∧ Below w.heap.size w w' := by
  have ha := clampV_bd x
  have hb := clampV_bd y
  generalize hx : clampV x = ax at ha
  generalize hy : clampV y = bx at hb
  obtain ⟨a, rfl⟩ := Int.eq_ofNat_of_zero_le ha.1
  obtain ⟨b, rfl⟩ := Int.eq_ofNat_of_zero_le hb.1
  have ha1 := ha.2
  have hb1 := hb.2
  rcases Nat.eq_zero_or_pos b with h0 | h0
  · subst h0
    rcases Nat.eq_zero_or_pos a with h1 | h1
    · subst h1
      exact divides_zero1 w x y 0 0 0 hx hy (by omega) rfl rfl ⟨by omega, by omega⟩ ⟨by omega, by omega⟩ ⟨by omega, by omega⟩ ⟨by omega, by omega⟩ ⟨by omega, by omega⟩ rfl rfl rfl (by omega)
    · have e1 : clampV ((a : Int) * 1) = a := by rw [Int.mul_one]; exact clampV_in (by omega) (by omega)
      have e2 : clampV (((a : Int) - 1) * 1) = (a : Int) - 1 := by rw [Int.mul_one]; exact clampV_in (by omega) (by omega)
      have e3 : clampV ((a : Int) + ((0 : Nat) : Int)) = a := by simpa using clampV_in (n := (a : Int)) (by omega) (by omega)
      exact divides_mul1 w x y a a a a ((a : Int) - 1) hx hy (by omega) (Nat.div_one a) (Nat.mod_one a) (by omega) h1 ⟨by omega, by omega⟩ ⟨by omega, by omega⟩ ⟨by omega, by omega⟩ ⟨by omega, by omega⟩ ⟨by omega, by omega⟩ e1 e3 e1 (by omega) ⟨by omega, by omega⟩ e2 (by omega)
  · have hdm := Nat.div_add_mod a b
    have hlt := Nat.mod_lt a h0
    have hql := Nat.div_le_self a b
    generalize hq : a / b = q at hdm hql
    generalize hr : a % b = r at hdm hlt
    have hm0 : 0 ≤ (q : Int) * b := Int.mul_nonneg (by omega) (by omega)
    have hdm' : (q : Int) * b + r = a := by
      have : ((b * q + r : Nat) : Int) = (a : Int) := by rw [hdm]
      rw [← this]; simp [Int.mul_comm]
    have e1 : clampV ((q : Int) * b) = (q : Int) * b := clampV_in hm0 (by omega)
    have e2 : clampV ((q : Int) * b + ((r : Nat) : Int)) = (a : Int) := by rw [hdm']; exact clampV_in (by omega) (by omega)
    rcases Nat.eq_zero_or_pos r with h1 | h1
    · subst h1
      rcases Nat.eq_zero_or_pos q with h2 | h2
      · subst h2
        have ha0 : a = 0 := by simpa using hdm.symm
        subst ha0
        exact divides_zeroB w x y 0 b 0 0 hx hy (by omega) (by omega) h0 hq hr ⟨by omega, by omega⟩ ⟨by omega, by omega⟩ ⟨by omega, by omega⟩ ⟨by omega, by omega⟩ ⟨by omega, by omega⟩ (show clampV _ = _ by simp [clampV]) rfl (show clampV _ = _ by simp [clampV]) (by omega)
      · have hm2 : 0 ≤ ((q : Int) - 1) * b := Int.mul_nonneg (by omega) (by omega)
        have hm3 : ((q : Int) - 1) * b = (q : Int) * b - b := by rw [Int.sub_mul, Int.one_mul]
        exact divides_mulB w x y a b q _ _ _ hx hy (by omega) (by omega) h0 hq hr (by omega) h2 ⟨by omega, by omega⟩ ⟨by omega, by omega⟩ ⟨by omega, by omega⟩ ⟨by omega, by omega⟩ ⟨hm0, by omega⟩ e1 e2 e1 (by omega) ⟨by omega, by omega⟩ rfl (by rw [clampV_in hm2 (by omega)]; omega)
    · have hqa : (q : Int) ≤ (q : Int) * b := by
        have : (q : Int) * 1 ≤ (q : Int) * b := Int.mul_le_mul_of_nonneg_left (by omega) (by omega)
        omega
      have hv : (a : Int) ≤ clampV (((q : Int) + 1) * b) := by
        have h3 : clampV (a : Int) ≤ clampV (((q : Int) + 1) * b) := clampV_le (by rw [Int.add_mul, Int.one_mul]; omega)
        rw [clampV_in (n := (a : Int)) (by omega) (by omega)] at h3
        exact h3
      exact divides_posB w x y a b q r _ _ hx hy (by omega) (by omega) h0 hq hr (by omega) h1 hlt (by omega) ⟨by omega, by omega⟩ ⟨by omega, by omega⟩ ⟨by omega, by omega⟩ ⟨by omega, by omega⟩ ⟨hm0, by omega⟩ e1 e2 rfl hv (by omega)

end Go.Proofs.Ytjgnldalmenahaa
