/- The laws TickRises and TickDivides. -/
import Derived.Test.YtjgnldalmenahaaLaws
import Derived.WalkLawsBesides
namespace Go.Proofs.Ytjgnldalmenahaa
open Go.RowKit

set_option maxHeartbeats 800000 in
theorem rises_le (w : World) (x y z a b c s1 s2 p1 p2 l1 l2 m1 m2 : Int) (CA : Hid (clampV x = a)) (CB : Hid (clampV y = b)) (CC : Hid (clampV z = c)) (hab : a ≤ b)
    (Ba : Hid (0 ≤ a ∧ a ≤ 4611686018427387903)) (Bb : Hid (0 ≤ b ∧ b ≤ 4611686018427387903)) (Bc : Hid (0 ≤ c ∧ c ≤ 4611686018427387903))
    (H1 : Hid (clampV (a + c) = s1)) (H2 : Hid (clampV (b + c) = s2)) (H3 : Hid (clampV (a * c) = p1)) (H4 : Hid (clampV (b * c) = p2)) (H5 : Hid (clampV (a - c) = l1)) (H6 : Hid (clampV (b - c) = l2)) (H7 : Hid (clampV (c - a) = m1)) (H8 : Hid (clampV (c - b) = m2))
    (g1 : s1 ≤ s2) (g2 : p1 ≤ p2) (g3 : l1 ≤ l2) (g4 : m2 ≤ m1) :
    Calls Try.prog 8 #[.int .i64 x, .int .i64 y, .int .i64 z] w fun e w' => e = .returned (.bool true) ∧ Below w.heap.size w w' := by
  go_enter Try.func8, Try.ntmps8
  go_wp2_with fail
  refine (awake1_any _).mono ?_
  rintro e w1 ⟨rfl, tt, rfl⟩
  go_wp2_with fail
  refine (tclamp_to _ x a CA.out).mono ?_
  rintro e w1 ⟨rfl, rfl⟩
  go_wp2_with fail
  refine (tclamp_to _ y b CB.out).mono ?_
  rintro e w1 ⟨rfl, rfl⟩
  go_wp2_with fail
  refine (tclamp_to _ z c CC.out).mono ?_
  rintro e w1 ⟨rfl, rfl⟩
  go_wp2_with fail
  refine (sum_to _ a c s1 Ba.out Bc.out H1.out).mono ?_
  rintro e w1 ⟨rfl, rfl⟩
  go_wp2_with fail
  refine (sum_to _ b c s2 Bb.out Bc.out H2.out).mono ?_
  rintro e w1 ⟨rfl, rfl⟩
  go_wp2_with fail
  refine (product_to _ a c p1 Ba.out Bc.out H3.out).mono ?_
  rintro e w1 ⟨rfl, rfl⟩
  go_wp2_with fail
  refine (product_to _ b c p2 Bb.out Bc.out H4.out).mono ?_
  rintro e w1 ⟨rfl, rfl⟩
  go_wp2_with fail
  refine (less_to _ a c l1 Ba.out Bc.out H5.out).mono ?_
  rintro e w1 ⟨rfl, rfl⟩
  go_wp2_with fail
  refine (less_to _ b c l2 Bb.out Bc.out H6.out).mono ?_
  rintro e w1 ⟨rfl, rfl⟩
  go_wp2_with fail
  refine (less_to _ c a m1 Bc.out Ba.out H7.out).mono ?_
  rintro e w1 ⟨rfl, rfl⟩
  go_wp2_with fail
  refine (less_to _ c b m2 Bc.out Bb.out H8.out).mono ?_
  rintro e w1 ⟨rfl, rfl⟩
  go_wp2
  go_ret
  exact ⟨rfl, below_drewN (Below.refl _ _) tt⟩

set_option maxHeartbeats 800000 in
theorem rises_gt (w : World) (x y z a b c s1 s2 p1 p2 l1 l2 m1 m2 : Int) (CA : Hid (clampV x = a)) (CB : Hid (clampV y = b)) (CC : Hid (clampV z = c)) (hab : b < a)
    (Ba : Hid (0 ≤ a ∧ a ≤ 4611686018427387903)) (Bb : Hid (0 ≤ b ∧ b ≤ 4611686018427387903)) (Bc : Hid (0 ≤ c ∧ c ≤ 4611686018427387903))
    (H1 : Hid (clampV (b + c) = s1)) (H2 : Hid (clampV (a + c) = s2)) (H3 : Hid (clampV (b * c) = p1)) (H4 : Hid (clampV (a * c) = p2)) (H5 : Hid (clampV (b - c) = l1)) (H6 : Hid (clampV (a - c) = l2)) (H7 : Hid (clampV (c - b) = m1)) (H8 : Hid (clampV (c - a) = m2))
    (g1 : s1 ≤ s2) (g2 : p1 ≤ p2) (g3 : l1 ≤ l2) (g4 : m2 ≤ m1) :
    Calls Try.prog 8 #[.int .i64 x, .int .i64 y, .int .i64 z] w fun e w' => e = .returned (.bool true) ∧ Below w.heap.size w w' := by
  go_enter Try.func8, Try.ntmps8
  go_wp2_with fail
  refine (awake1_any _).mono ?_
  rintro e w1 ⟨rfl, tt, rfl⟩
  go_wp2_with fail
  refine (tclamp_to _ x a CA.out).mono ?_
  rintro e w1 ⟨rfl, rfl⟩
  go_wp2_with fail
  refine (tclamp_to _ y b CB.out).mono ?_
  rintro e w1 ⟨rfl, rfl⟩
  go_wp2_with fail
  refine (tclamp_to _ z c CC.out).mono ?_
  rintro e w1 ⟨rfl, rfl⟩
  go_wp2_with fail
  refine (sum_to _ b c s1 Bb.out Bc.out H1.out).mono ?_
  rintro e w1 ⟨rfl, rfl⟩
  go_wp2_with fail
  refine (sum_to _ a c s2 Ba.out Bc.out H2.out).mono ?_
  rintro e w1 ⟨rfl, rfl⟩
  go_wp2_with fail
  refine (product_to _ b c p1 Bb.out Bc.out H3.out).mono ?_
  rintro e w1 ⟨rfl, rfl⟩
  go_wp2_with fail
  refine (product_to _ a c p2 Ba.out Bc.out H4.out).mono ?_
  rintro e w1 ⟨rfl, rfl⟩
  go_wp2_with fail
  refine (less_to _ b c l1 Bb.out Bc.out H5.out).mono ?_
  rintro e w1 ⟨rfl, rfl⟩
  go_wp2_with fail
  refine (less_to _ a c l2 Ba.out Bc.out H6.out).mono ?_
  rintro e w1 ⟨rfl, rfl⟩
  go_wp2_with fail
  refine (less_to _ c b m1 Bc.out Bb.out H7.out).mono ?_
  rintro e w1 ⟨rfl, rfl⟩
  go_wp2_with fail
  refine (less_to _ c a m2 Bc.out Ba.out H8.out).mono ?_
  rintro e w1 ⟨rfl, rfl⟩
  go_wp2
  go_ret
  exact ⟨rfl, below_drewN (Below.refl _ _) tt⟩

theorem mul_le_r {a b c : Int} (h : a ≤ b) (hc : 0 ≤ c) : a * c ≤ b * c := Int.mul_le_mul_of_nonneg_right h hc

theorem tickRises_walk (x y z : Int) (w : World) (_ : (Lit.int .i64 x).wf = true) (_ : (Lit.int .i64 y).wf = true) (_ : (Lit.int .i64 z).wf = true) :
    Calls Try.prog 8 #[.int .i64 x, .int .i64 y, .int .i64 z] w fun e w' => e = .returned (.bool true) ∧ Below w.heap.size w w' := by
  have ha := clampV_bd x
  have hb := clampV_bd y
  have hc := clampV_bd z
  rcases Int.lt_or_le (clampV y) (clampV x) with h | h
  · exact rises_gt w x y z _ _ _ _ _ _ _ _ _ _ _ rfl rfl rfl h ha hb hc rfl rfl rfl rfl rfl rfl rfl rfl (clampV_le (by omega)) (clampV_le (mul_le_r (by omega) hc.1)) (clampV_le (by omega)) (clampV_le (by omega))
  · exact rises_le w x y z _ _ _ _ _ _ _ _ _ _ _ rfl rfl rfl h ha hb hc rfl rfl rfl rfl rfl rfl rfl rfl (clampV_le (by omega)) (clampV_le (mul_le_r (by omega) hc.1)) (clampV_le (by omega)) (clampV_le (by omega))

end Go.Proofs.Ytjgnldalmenahaa
