/- The laws TickLaws, TickDivides, TickRises: sums, products and differences of ticks. -/
import Derived.Test.YtjgnldalmenahaaSums
import Derived.Test.YtjgnldalmenahaaQuots
namespace Go.Proofs.Ytjgnldalmenahaa
open Go.RowKit

theorem clampV_add_l {x c : Int} (hx : 0 ≤ x) (hc : 0 ≤ c) : clampV (clampV x + c) = clampV (x + c) := by
  unfold clampV
  split <;> split <;> split <;> (try split) <;> (try split) <;> omega
theorem clampV_add_r {x c : Int} (hx : 0 ≤ x) (hc : 0 ≤ c) : clampV (c + clampV x) = clampV (c + x) := by
  rw [Int.add_comm, clampV_add_l hx hc, Int.add_comm]
theorem clampV_hi' {n : Int} (h : 4611686018427387903 ≤ n) : clampV n = 4611686018427387903 := by
  rcases Int.lt_or_le 4611686018427387903 n with h1 | h1
  · exact clampV_hi h1
  · rw [clampV_in (by omega) h1]; omega
theorem clampV_mul_l {x c : Int} (hx : 0 ≤ x) (hc : 0 ≤ c) : clampV (clampV x * c) = clampV (x * c) := by
  rcases Int.lt_or_le 4611686018427387903 x with h1 | h1
  · rw [clampV_hi h1]
    rcases Int.lt_or_le 0 c with h2 | h2
    · obtain ⟨d, rfl⟩ : ∃ d, c = d + 1 := ⟨c - 1, by omega⟩
      have hd : 0 ≤ d := by omega
      have hm : 0 ≤ x * d := Int.mul_nonneg hx hd
      rw [clampV_hi' (by omega), clampV_hi' (by rw [Int.mul_add]; omega)]
    · obtain rfl : c = 0 := by omega
      rw [Int.mul_zero, Int.mul_zero]
  · rw [clampV_in hx h1]
theorem clampV_mul_r {x c : Int} (hx : 0 ≤ x) (hc : 0 ≤ c) : clampV (c * clampV x) = clampV (c * x) := by
  rw [Int.mul_comm, clampV_mul_l hx hc, Int.mul_comm]
theorem clampV_le {x y : Int} (h : x ≤ y) : clampV x ≤ clampV y := by
  unfold clampV
  split <;> split <;> (try split) <;> (try split) <;> omega

theorem tclamp_to (w : World) (x a : Int) (h : clampV x = a) : Calls Try.prog 26 #[.int .i64 x] w fun e w' => e = .returned (.int .i64 a) ∧ w = w' := by
  have := tclamp_any w x
  rw [h] at this
  exact this

set_option maxHeartbeats 400000 in
theorem sum_to (w : World) (a b s : Int) (ha : 0 ≤ a ∧ a ≤ 4611686018427387903) (hb : 0 ≤ b ∧ b ≤ 4611686018427387903) (h : clampV (a + b) = s) :
    Calls Try.prog 28 #[.int .i64 a, .int .i64 b] w fun e w' => e = .returned (.int .i64 s) ∧ w = w' := by
  have HC := Lib.hid (tadd_ok w a b ha hb)
  have HS := Lib.hid h
  clear h
  go_enter Try.func28, Try.ntmps28
  go_wp2_with fail
  refine HC.out.mono ?_
  rintro e w1 ⟨rfl, rfl⟩
  go_wp2
  go_ret
  exact ⟨ret_int HS.out, rfl⟩

set_option maxHeartbeats 400000 in
theorem product_to (w : World) (a b s : Int) (ha : 0 ≤ a ∧ a ≤ 4611686018427387903) (hb : 0 ≤ b ∧ b ≤ 4611686018427387903) (h : clampV (a * b) = s) :
    Calls Try.prog 29 #[.int .i64 a, .int .i64 b] w fun e w' => e = .returned (.int .i64 s) ∧ w = w' := by
  have HC := Lib.hid (tmul_ok w a b ha hb)
  have HS := Lib.hid h
  clear h
  go_enter Try.func29, Try.ntmps29
  go_wp2_with fail
  refine HC.out.mono ?_
  rintro e w1 ⟨rfl, rfl⟩
  go_wp2
  go_ret
  exact ⟨ret_int HS.out, rfl⟩

set_option maxHeartbeats 400000 in
theorem less_to (w : World) (a b s : Int) (ha : 0 ≤ a ∧ a ≤ 4611686018427387903) (hb : 0 ≤ b ∧ b ≤ 4611686018427387903) (h : clampV (a - b) = s) :
    Calls Try.prog 30 #[.int .i64 a, .int .i64 b] w fun e w' => e = .returned (.int .i64 s) ∧ w = w' := by
  have HC := Lib.hid (tsub_ok w a b ha hb)
  have HS := Lib.hid h
  clear h
  go_enter Try.func30, Try.ntmps30
  go_wp2_with fail
  refine HC.out.mono ?_
  rintro e w1 ⟨rfl, rfl⟩
  go_wp2
  go_ret
  exact ⟨ret_int HS.out, rfl⟩

theorem add_back {a b : Int} (ha : 0 ≤ a ∧ a ≤ 4611686018427387903) (hb : 0 ≤ b ∧ b ≤ 4611686018427387903) (h : clampV (a + b) < 4611686018427387903) : clampV (clampV (a + b) - b) = a := by
  rcases Int.lt_or_le 4611686018427387903 (a + b) with h1 | h1
  · rw [clampV_hi h1] at h; omega
  · rw [clampV_in (by omega) h1, clampV_in (by omega) (by omega)]; omega

/-- All that TickLaws asks of three ticks, by its answers. -/
structure LawsOf (a b c s1 s2 p1 p2 p3 t u v : Int) : Prop where
  ab : clampV (a + b) = s1
  ba : clampV (b + a) = s1
  pab : clampV (a * b) = p1
  pba : clampV (b * a) = p1
  t1 : clampV (s1 + c) = t
  bc : clampV (b + c) = s2
  t2 : clampV (a + s2) = t
  u1 : clampV (p1 * c) = u
  pbc : clampV (b * c) = p2
  u2 : clampV (a * p2) = u
  v1 : clampV (a * s2) = v
  pac : clampV (a * c) = p3
  v2 : clampV (p1 + p3) = v
  bd : (0 ≤ s1 ∧ s1 ≤ 4611686018427387903) ∧ (0 ≤ s2 ∧ s2 ≤ 4611686018427387903) ∧ (0 ≤ p1 ∧ p1 ≤ 4611686018427387903) ∧ (0 ≤ p2 ∧ p2 ≤ 4611686018427387903) ∧ (0 ≤ p3 ∧ p3 ≤ 4611686018427387903)
  le : a ≤ s1 ∧ b ≤ s1

theorem lawsOf {a b c : Int} (ha : 0 ≤ a ∧ a ≤ 4611686018427387903) (hb : 0 ≤ b ∧ b ≤ 4611686018427387903) (hc : 0 ≤ c ∧ c ≤ 4611686018427387903) :
    LawsOf a b c (clampV (a + b)) (clampV (b + c)) (clampV (a * b)) (clampV (b * c)) (clampV (a * c)) (clampV (a + b + c)) (clampV (a * b * c)) (clampV (a * b + a * c)) := by
  have h1 := Int.mul_nonneg ha.1 hb.1
  have h2 := Int.mul_nonneg hb.1 hc.1
  have h3 := Int.mul_nonneg ha.1 hc.1
  refine ⟨rfl, by rw [Int.add_comm], rfl, by rw [Int.mul_comm], clampV_add_l (by omega) hc.1, rfl, ?_, clampV_mul_l h1 hc.1, rfl, ?_, ?_, rfl, ?_, ⟨clampV_bd _, clampV_bd _, clampV_bd _, clampV_bd _, clampV_bd _⟩, ?_⟩
  · rw [clampV_add_r (by omega) ha.1, Int.add_assoc]
  · rw [clampV_mul_r h2 ha.1, Int.mul_assoc]
  · rw [clampV_mul_r (by omega) ha.1, Int.mul_add]
  · rw [clampV_add_l h1 (clampV_bd _).1, clampV_add_r h3 h1]
  · have e1 : clampV a ≤ clampV (a + b) := clampV_le (by omega)
    have e2 : clampV b ≤ clampV (a + b) := clampV_le (by omega)
    rw [clampV_in ha.1 ha.2] at e1
    rw [clampV_in hb.1 hb.2] at e2
    exact ⟨e1, e2⟩

def tick01 (n : Int) : Prop := 0 ≤ n ∧ n ≤ 4611686018427387903

set_option maxHeartbeats 1600000 in
theorem laws_lg (w : World) (x y z a b c s1 s2 p1 p2 p3 t u v d : Int) (CA : Hid (clampV x = a)) (CB : Hid (clampV y = b)) (CC : Hid (clampV z = c)) (LL : Hid (LawsOf a b c s1 s2 p1 p2 p3 t u v))
    (Ba : Hid (0 ≤ a ∧ a ≤ 4611686018427387903)) (Bb : Hid (0 ≤ b ∧ b ≤ 4611686018427387903)) (Bc : Hid (0 ≤ c ∧ c ≤ 4611686018427387903)) (Bd : Hid (0 ≤ d ∧ d ≤ 4611686018427387903)) (D1 : Hid (clampV (a - b) = d)) (hle1 : a ≤ s1) (hle2 : b ≤ s1) (hS : s1 < 4611686018427387903) (S1 : Hid (clampV (s1 - b) = a)) (hd : 0 < d) (D2 : Hid (clampV (d + b) = a)) :
    Calls Try.prog 6 #[.int .i64 x, .int .i64 y, .int .i64 z] w fun e w' => e = .returned (.bool true) ∧ Below w.heap.size w w' := by
  have Hab := Lib.hid LL.out.ab
  have Hba := Lib.hid LL.out.ba
  have Pab := Lib.hid LL.out.pab
  have Pba := Lib.hid LL.out.pba
  have T1 := Lib.hid LL.out.t1
  have Hbc := Lib.hid LL.out.bc
  have T2 := Lib.hid LL.out.t2
  have U1 := Lib.hid LL.out.u1
  have Pbc := Lib.hid LL.out.pbc
  have U2 := Lib.hid LL.out.u2
  have V1 := Lib.hid LL.out.v1
  have Pac := Lib.hid LL.out.pac
  have V2 := Lib.hid LL.out.v2
  have Bs1 := Lib.hid LL.out.bd.1
  have Bs2 := Lib.hid LL.out.bd.2.1
  have Bp1 := Lib.hid LL.out.bd.2.2.1
  have Bp2 := Lib.hid LL.out.bd.2.2.2.1
  have Bp3 := Lib.hid LL.out.bd.2.2.2.2
  have A0 : Hid (clampV (a + 0) = a) := by rw [Int.add_zero]; exact clampV_in Ba.out.1 Ba.out.2
  have A1 : Hid (clampV (a * 1) = a) := by rw [Int.mul_one]; exact clampV_in Ba.out.1 Ba.out.2
  have A2 : Hid (clampV (a * 0) = 0) := by rw [Int.mul_zero]; rfl
  have A3 : Hid (clampV (a - 0) = a) := by rw [Int.sub_zero]; exact clampV_in Ba.out.1 Ba.out.2
  have A4 : Hid (clampV (a - a) = 0) := by rw [Int.sub_self]; rfl
  have Bl : Hid ((0 : Int) ≤ 0 ∧ (0 : Int) ≤ 4611686018427387903) := ⟨by omega, by omega⟩
  go_enter Try.func6, Try.ntmps6
  go_wp2_with fail
  refine (awake1_any _).mono ?_
  rintro e w1 ⟨rfl, tt, rfl⟩
  go_wp2_with fail
  refine (tclamp_to _ x a CA.out).mono ?_
  rintro e w1 ⟨rfl, rfl⟩
  go_wp2_with fail
  refine (tclamp_to _ y b CB.out).mono ?_
  rintro e w1 ⟨rfl, rfl⟩
  go_wp2_with fail
  refine (tclamp_to _ z c CC.out).mono ?_
  rintro e w1 ⟨rfl, rfl⟩
  go_wp2_with fail
  refine (sum_to _ a b s1 Ba.out Bb.out Hab.out).mono ?_
  rintro e w1 ⟨rfl, rfl⟩
  go_wp2_with fail
  refine (sum_to _ b a s1 Bb.out Ba.out Hba.out).mono ?_
  rintro e w1 ⟨rfl, rfl⟩
  go_wp2_with fail
  refine (product_to _ a b p1 Ba.out Bb.out Pab.out).mono ?_
  rintro e w1 ⟨rfl, rfl⟩
  go_wp2_with fail
  refine (product_to _ b a p1 Bb.out Ba.out Pba.out).mono ?_
  rintro e w1 ⟨rfl, rfl⟩
  go_wp2_with fail
  refine (sum_to _ a b s1 Ba.out Bb.out Hab.out).mono ?_
  rintro e w1 ⟨rfl, rfl⟩
  go_wp2_with fail
  refine (sum_to _ s1 c t Bs1.out Bc.out T1.out).mono ?_
  rintro e w1 ⟨rfl, rfl⟩
  go_wp2_with fail
  refine (sum_to _ b c s2 Bb.out Bc.out Hbc.out).mono ?_
  rintro e w1 ⟨rfl, rfl⟩
  go_wp2_with fail
  refine (sum_to _ a s2 t Ba.out Bs2.out T2.out).mono ?_
  rintro e w1 ⟨rfl, rfl⟩
  go_wp2_with fail
  refine (product_to _ a b p1 Ba.out Bb.out Pab.out).mono ?_
  rintro e w1 ⟨rfl, rfl⟩
  go_wp2_with fail
  refine (product_to _ p1 c u Bp1.out Bc.out U1.out).mono ?_
  rintro e w1 ⟨rfl, rfl⟩
  go_wp2_with fail
  refine (product_to _ b c p2 Bb.out Bc.out Pbc.out).mono ?_
  rintro e w1 ⟨rfl, rfl⟩
  go_wp2_with fail
  refine (product_to _ a p2 u Ba.out Bp2.out U2.out).mono ?_
  rintro e w1 ⟨rfl, rfl⟩
  go_wp2_with fail
  refine (sum_to _ b c s2 Bb.out Bc.out Hbc.out).mono ?_
  rintro e w1 ⟨rfl, rfl⟩
  go_wp2_with fail
  refine (product_to _ a s2 v Ba.out Bs2.out V1.out).mono ?_
  rintro e w1 ⟨rfl, rfl⟩
  go_wp2_with fail
  refine (product_to _ a b p1 Ba.out Bb.out Pab.out).mono ?_
  rintro e w1 ⟨rfl, rfl⟩
  go_wp2_with fail
  refine (product_to _ a c p3 Ba.out Bc.out Pac.out).mono ?_
  rintro e w1 ⟨rfl, rfl⟩
  go_wp2_with fail
  refine (sum_to _ p1 p3 v Bp1.out Bp3.out V2.out).mono ?_
  rintro e w1 ⟨rfl, rfl⟩
  go_wp2_with fail
  refine (sum_to _ a 0 a Ba.out Bl.out A0.out).mono ?_
  rintro e w1 ⟨rfl, rfl⟩
  go_wp2_with fail
  refine (product_to _ a 1 a Ba.out ⟨by omega, by omega⟩ A1.out).mono ?_
  rintro e w1 ⟨rfl, rfl⟩
  go_wp2_with fail
  refine (product_to _ a 0 0 Ba.out Bl.out A2.out).mono ?_
  rintro e w1 ⟨rfl, rfl⟩
  go_wp2_with fail
  refine (less_to _ a 0 a Ba.out Bl.out A3.out).mono ?_
  rintro e w1 ⟨rfl, rfl⟩
  go_wp2_with fail
  refine (less_to _ a a 0 Ba.out Ba.out A4.out).mono ?_
  rintro e w1 ⟨rfl, rfl⟩
  go_wp2_with fail
  refine (sum_to _ a b s1 Ba.out Bb.out Hab.out).mono ?_
  rintro e w1 ⟨rfl, rfl⟩
  go_wp2_with fail
  refine (less_to _ s1 b a Bs1.out Bb.out S1.out).mono ?_
  rintro e w1 ⟨rfl, rfl⟩
  go_wp2_with fail
  refine (less_to _ a b d Ba.out Bb.out D1.out).mono ?_
  rintro e w1 ⟨rfl, rfl⟩
  go_wp2_with fail
  refine (less_to _ a b d Ba.out Bb.out D1.out).mono ?_
  rintro e w1 ⟨rfl, rfl⟩
  go_wp2_with fail
  refine (sum_to _ d b a Bd.out Bb.out D2.out).mono ?_
  rintro e w1 ⟨rfl, rfl⟩
  go_wp2
  go_ret
  exact ⟨rfl, below_drewN (Below.refl _ _) tt⟩

set_option maxHeartbeats 1600000 in
theorem laws_le (w : World) (x y z a b c s1 s2 p1 p2 p3 t u v d : Int) (CA : Hid (clampV x = a)) (CB : Hid (clampV y = b)) (CC : Hid (clampV z = c)) (LL : Hid (LawsOf a b c s1 s2 p1 p2 p3 t u v))
    (Ba : Hid (0 ≤ a ∧ a ≤ 4611686018427387903)) (Bb : Hid (0 ≤ b ∧ b ≤ 4611686018427387903)) (Bc : Hid (0 ≤ c ∧ c ≤ 4611686018427387903)) (Bd : Hid (0 ≤ d ∧ d ≤ 4611686018427387903)) (D1 : Hid (clampV (a - b) = d)) (hle1 : a ≤ s1) (hle2 : b ≤ s1) (hS : s1 < 4611686018427387903) (S1 : Hid (clampV (s1 - b) = a)) (hd : d = 0) :
    Calls Try.prog 6 #[.int .i64 x, .int .i64 y, .int .i64 z] w fun e w' => e = .returned (.bool true) ∧ Below w.heap.size w w' := by
  have Hab := Lib.hid LL.out.ab
  have Hba := Lib.hid LL.out.ba
  have Pab := Lib.hid LL.out.pab
  have Pba := Lib.hid LL.out.pba
  have T1 := Lib.hid LL.out.t1
  have Hbc := Lib.hid LL.out.bc
  have T2 := Lib.hid LL.out.t2
  have U1 := Lib.hid LL.out.u1
  have Pbc := Lib.hid LL.out.pbc
  have U2 := Lib.hid LL.out.u2
  have V1 := Lib.hid LL.out.v1
  have Pac := Lib.hid LL.out.pac
  have V2 := Lib.hid LL.out.v2
  have Bs1 := Lib.hid LL.out.bd.1
  have Bs2 := Lib.hid LL.out.bd.2.1
  have Bp1 := Lib.hid LL.out.bd.2.2.1
  have Bp2 := Lib.hid LL.out.bd.2.2.2.1
  have Bp3 := Lib.hid LL.out.bd.2.2.2.2
  have A0 : Hid (clampV (a + 0) = a) := by rw [Int.add_zero]; exact clampV_in Ba.out.1 Ba.out.2
  have A1 : Hid (clampV (a * 1) = a) := by rw [Int.mul_one]; exact clampV_in Ba.out.1 Ba.out.2
  have A2 : Hid (clampV (a * 0) = 0) := by rw [Int.mul_zero]; rfl
  have A3 : Hid (clampV (a - 0) = a) := by rw [Int.sub_zero]; exact clampV_in Ba.out.1 Ba.out.2
  have A4 : Hid (clampV (a - a) = 0) := by rw [Int.sub_self]; rfl
  have Bl : Hid ((0 : Int) ≤ 0 ∧ (0 : Int) ≤ 4611686018427387903) := ⟨by omega, by omega⟩
  subst hd
  go_enter Try.func6, Try.ntmps6
  go_wp2_with fail
  refine (awake1_any _).mono ?_
  rintro e w1 ⟨rfl, tt, rfl⟩
  go_wp2_with fail
  refine (tclamp_to _ x a CA.out).mono ?_
  rintro e w1 ⟨rfl, rfl⟩
  go_wp2_with fail
  refine (tclamp_to _ y b CB.out).mono ?_
  rintro e w1 ⟨rfl, rfl⟩
  go_wp2_with fail
  refine (tclamp_to _ z c CC.out).mono ?_
  rintro e w1 ⟨rfl, rfl⟩
  go_wp2_with fail
  refine (sum_to _ a b s1 Ba.out Bb.out Hab.out).mono ?_
  rintro e w1 ⟨rfl, rfl⟩
  go_wp2_with fail
  refine (sum_to _ b a s1 Bb.out Ba.out Hba.out).mono ?_
  rintro e w1 ⟨rfl, rfl⟩
  go_wp2_with fail
  refine (product_to _ a b p1 Ba.out Bb.out Pab.out).mono ?_
  rintro e w1 ⟨rfl, rfl⟩
  go_wp2_with fail
  refine (product_to _ b a p1 Bb.out Ba.out Pba.out).mono ?_
  rintro e w1 ⟨rfl, rfl⟩
  go_wp2_with fail
  refine (sum_to _ a b s1 Ba.out Bb.out Hab.out).mono ?_
  rintro e w1 ⟨rfl, rfl⟩
  go_wp2_with fail
  refine (sum_to _ s1 c t Bs1.out Bc.out T1.out).mono ?_
  rintro e w1 ⟨rfl, rfl⟩
  go_wp2_with fail
  refine (sum_to _ b c s2 Bb.out Bc.out Hbc.out).mono ?_
  rintro e w1 ⟨rfl, rfl⟩
  go_wp2_with fail
  refine (sum_to _ a s2 t Ba.out Bs2.out T2.out).mono ?_
  rintro e w1 ⟨rfl, rfl⟩
  go_wp2_with fail
  refine (product_to _ a b p1 Ba.out Bb.out Pab.out).mono ?_
  rintro e w1 ⟨rfl, rfl⟩
  go_wp2_with fail
  refine (product_to _ p1 c u Bp1.out Bc.out U1.out).mono ?_
  rintro e w1 ⟨rfl, rfl⟩
  go_wp2_with fail
  refine (product_to _ b c p2 Bb.out Bc.out Pbc.out).mono ?_
  rintro e w1 ⟨rfl, rfl⟩
  go_wp2_with fail
  refine (product_to _ a p2 u Ba.out Bp2.out U2.out).mono ?_
  rintro e w1 ⟨rfl, rfl⟩
  go_wp2_with fail
  refine (sum_to _ b c s2 Bb.out Bc.out Hbc.out).mono ?_
  rintro e w1 ⟨rfl, rfl⟩
  go_wp2_with fail
  refine (product_to _ a s2 v Ba.out Bs2.out V1.out).mono ?_
  rintro e w1 ⟨rfl, rfl⟩
  go_wp2_with fail
  refine (product_to _ a b p1 Ba.out Bb.out Pab.out).mono ?_
  rintro e w1 ⟨rfl, rfl⟩
  go_wp2_with fail
  refine (product_to _ a c p3 Ba.out Bc.out Pac.out).mono ?_
  rintro e w1 ⟨rfl, rfl⟩
  go_wp2_with fail
  refine (sum_to _ p1 p3 v Bp1.out Bp3.out V2.out).mono ?_
  rintro e w1 ⟨rfl, rfl⟩
  go_wp2_with fail
  refine (sum_to _ a 0 a Ba.out Bl.out A0.out).mono ?_
  rintro e w1 ⟨rfl, rfl⟩
  go_wp2_with fail
  refine (product_to _ a 1 a Ba.out ⟨by omega, by omega⟩ A1.out).mono ?_
  rintro e w1 ⟨rfl, rfl⟩
  go_wp2_with fail
  refine (product_to _ a 0 0 Ba.out Bl.out A2.out).mono ?_
  rintro e w1 ⟨rfl, rfl⟩
  go_wp2_with fail
  refine (less_to _ a 0 a Ba.out Bl.out A3.out).mono ?_
  rintro e w1 ⟨rfl, rfl⟩
  go_wp2_with fail
  refine (less_to _ a a 0 Ba.out Ba.out A4.out).mono ?_
  rintro e w1 ⟨rfl, rfl⟩
  go_wp2_with fail
  refine (sum_to _ a b s1 Ba.out Bb.out Hab.out).mono ?_
  rintro e w1 ⟨rfl, rfl⟩
  go_wp2_with fail
  refine (less_to _ s1 b a Bs1.out Bb.out S1.out).mono ?_
  rintro e w1 ⟨rfl, rfl⟩
  go_wp2_with fail
  refine (less_to _ a b 0 Ba.out Bb.out D1.out).mono ?_
  rintro e w1 ⟨rfl, rfl⟩
  go_wp2
  go_ret
  exact ⟨rfl, below_drewN (Below.refl _ _) tt⟩

set_option maxHeartbeats 1600000 in
theorem laws_gg (w : World) (x y z a b c s1 s2 p1 p2 p3 t u v d : Int) (CA : Hid (clampV x = a)) (CB : Hid (clampV y = b)) (CC : Hid (clampV z = c)) (LL : Hid (LawsOf a b c s1 s2 p1 p2 p3 t u v))
    (Ba : Hid (0 ≤ a ∧ a ≤ 4611686018427387903)) (Bb : Hid (0 ≤ b ∧ b ≤ 4611686018427387903)) (Bc : Hid (0 ≤ c ∧ c ≤ 4611686018427387903)) (Bd : Hid (0 ≤ d ∧ d ≤ 4611686018427387903)) (D1 : Hid (clampV (a - b) = d)) (hle1 : a ≤ s1) (hle2 : b ≤ s1) (hS : 4611686018427387903 ≤ s1) (hd : 0 < d) (D2 : Hid (clampV (d + b) = a)) :
    Calls Try.prog 6 #[.int .i64 x, .int .i64 y, .int .i64 z] w fun e w' => e = .returned (.bool true) ∧ Below w.heap.size w w' := by
  have Hab := Lib.hid LL.out.ab
  have Hba := Lib.hid LL.out.ba
  have Pab := Lib.hid LL.out.pab
  have Pba := Lib.hid LL.out.pba
  have T1 := Lib.hid LL.out.t1
  have Hbc := Lib.hid LL.out.bc
  have T2 := Lib.hid LL.out.t2
  have U1 := Lib.hid LL.out.u1
  have Pbc := Lib.hid LL.out.pbc
  have U2 := Lib.hid LL.out.u2
  have V1 := Lib.hid LL.out.v1
  have Pac := Lib.hid LL.out.pac
  have V2 := Lib.hid LL.out.v2
  have Bs1 := Lib.hid LL.out.bd.1
  have Bs2 := Lib.hid LL.out.bd.2.1
  have Bp1 := Lib.hid LL.out.bd.2.2.1
  have Bp2 := Lib.hid LL.out.bd.2.2.2.1
  have Bp3 := Lib.hid LL.out.bd.2.2.2.2
  have A0 : Hid (clampV (a + 0) = a) := by rw [Int.add_zero]; exact clampV_in Ba.out.1 Ba.out.2
  have A1 : Hid (clampV (a * 1) = a) := by rw [Int.mul_one]; exact clampV_in Ba.out.1 Ba.out.2
  have A2 : Hid (clampV (a * 0) = 0) := by rw [Int.mul_zero]; rfl
  have A3 : Hid (clampV (a - 0) = a) := by rw [Int.sub_zero]; exact clampV_in Ba.out.1 Ba.out.2
  have A4 : Hid (clampV (a - a) = 0) := by rw [Int.sub_self]; rfl
  have Bl : Hid ((0 : Int) ≤ 0 ∧ (0 : Int) ≤ 4611686018427387903) := ⟨by omega, by omega⟩
  go_enter Try.func6, Try.ntmps6
  go_wp2_with fail
  refine (awake1_any _).mono ?_
  rintro e w1 ⟨rfl, tt, rfl⟩
  go_wp2_with fail
  refine (tclamp_to _ x a CA.out).mono ?_
  rintro e w1 ⟨rfl, rfl⟩
  go_wp2_with fail
  refine (tclamp_to _ y b CB.out).mono ?_
  rintro e w1 ⟨rfl, rfl⟩
  go_wp2_with fail
  refine (tclamp_to _ z c CC.out).mono ?_
  rintro e w1 ⟨rfl, rfl⟩
  go_wp2_with fail
  refine (sum_to _ a b s1 Ba.out Bb.out Hab.out).mono ?_
  rintro e w1 ⟨rfl, rfl⟩
  go_wp2_with fail
  refine (sum_to _ b a s1 Bb.out Ba.out Hba.out).mono ?_
  rintro e w1 ⟨rfl, rfl⟩
  go_wp2_with fail
  refine (product_to _ a b p1 Ba.out Bb.out Pab.out).mono ?_
  rintro e w1 ⟨rfl, rfl⟩
  go_wp2_with fail
  refine (product_to _ b a p1 Bb.out Ba.out Pba.out).mono ?_
  rintro e w1 ⟨rfl, rfl⟩
  go_wp2_with fail
  refine (sum_to _ a b s1 Ba.out Bb.out Hab.out).mono ?_
  rintro e w1 ⟨rfl, rfl⟩
  go_wp2_with fail
  refine (sum_to _ s1 c t Bs1.out Bc.out T1.out).mono ?_
  rintro e w1 ⟨rfl, rfl⟩
  go_wp2_with fail
  refine (sum_to _ b c s2 Bb.out Bc.out Hbc.out).mono ?_
  rintro e w1 ⟨rfl, rfl⟩
  go_wp2_with fail
  refine (sum_to _ a s2 t Ba.out Bs2.out T2.out).mono ?_
  rintro e w1 ⟨rfl, rfl⟩
  go_wp2_with fail
  refine (product_to _ a b p1 Ba.out Bb.out Pab.out).mono ?_
  rintro e w1 ⟨rfl, rfl⟩
  go_wp2_with fail
  refine (product_to _ p1 c u Bp1.out Bc.out U1.out).mono ?_
  rintro e w1 ⟨rfl, rfl⟩
  go_wp2_with fail
  refine (product_to _ b c p2 Bb.out Bc.out Pbc.out).mono ?_
  rintro e w1 ⟨rfl, rfl⟩
  go_wp2_with fail
  refine (product_to _ a p2 u Ba.out Bp2.out U2.out).mono ?_
  rintro e w1 ⟨rfl, rfl⟩
  go_wp2_with fail
  refine (sum_to _ b c s2 Bb.out Bc.out Hbc.out).mono ?_
  rintro e w1 ⟨rfl, rfl⟩
  go_wp2_with fail
  refine (product_to _ a s2 v Ba.out Bs2.out V1.out).mono ?_
  rintro e w1 ⟨rfl, rfl⟩
  go_wp2_with fail
  refine (product_to _ a b p1 Ba.out Bb.out Pab.out).mono ?_
  rintro e w1 ⟨rfl, rfl⟩
  go_wp2_with fail
  refine (product_to _ a c p3 Ba.out Bc.out Pac.out).mono ?_
  rintro e w1 ⟨rfl, rfl⟩
  go_wp2_with fail
  refine (sum_to _ p1 p3 v Bp1.out Bp3.out V2.out).mono ?_
  rintro e w1 ⟨rfl, rfl⟩
  go_wp2_with fail
  refine (sum_to _ a 0 a Ba.out Bl.out A0.out).mono ?_
  rintro e w1 ⟨rfl, rfl⟩
  go_wp2_with fail
  refine (product_to _ a 1 a Ba.out ⟨by omega, by omega⟩ A1.out).mono ?_
  rintro e w1 ⟨rfl, rfl⟩
  go_wp2_with fail
  refine (product_to _ a 0 0 Ba.out Bl.out A2.out).mono ?_
  rintro e w1 ⟨rfl, rfl⟩
  go_wp2_with fail
  refine (less_to _ a 0 a Ba.out Bl.out A3.out).mono ?_
  rintro e w1 ⟨rfl, rfl⟩
  go_wp2_with fail
  refine (less_to _ a a 0 Ba.out Ba.out A4.out).mono ?_
  rintro e w1 ⟨rfl, rfl⟩
  go_wp2_with fail
  refine (sum_to _ a b s1 Ba.out Bb.out Hab.out).mono ?_
  rintro e w1 ⟨rfl, rfl⟩
  go_wp2_with fail
  refine (less_to _ a b d Ba.out Bb.out D1.out).mono ?_
  rintro e w1 ⟨rfl, rfl⟩
  go_wp2_with fail
  refine (less_to _ a b d Ba.out Bb.out D1.out).mono ?_
  rintro e w1 ⟨rfl, rfl⟩
  go_wp2_with fail
  refine (sum_to _ d b a Bd.out Bb.out D2.out).mono ?_
  rintro e w1 ⟨rfl, rfl⟩
  go_wp2
  go_ret
  exact ⟨rfl, below_drewN (Below.refl _ _) tt⟩

set_option maxHeartbeats 1600000 in
theorem laws_ge (w : World) (x y z a b c s1 s2 p1 p2 p3 t u v d : Int) (CA : Hid (clampV x = a)) (CB : Hid (clampV y = b)) (CC : Hid (clampV z = c)) (LL : Hid (LawsOf a b c s1 s2 p1 p2 p3 t u v))
    (Ba : Hid (0 ≤ a ∧ a ≤ 4611686018427387903)) (Bb : Hid (0 ≤ b ∧ b ≤ 4611686018427387903)) (Bc : Hid (0 ≤ c ∧ c ≤ 4611686018427387903)) (Bd : Hid (0 ≤ d ∧ d ≤ 4611686018427387903)) (D1 : Hid (clampV (a - b) = d)) (hle1 : a ≤ s1) (hle2 : b ≤ s1) (hS : 4611686018427387903 ≤ s1) (hd : d = 0) :
    Calls Try.prog 6 #[.int .i64 x, .int .i64 y, .int .i64 z] w fun e w' => e = .returned (.bool true) ∧ Below w.heap.size w w' := by
  have Hab := Lib.hid LL.out.ab
  have Hba := Lib.hid LL.out.ba
  have Pab := Lib.hid LL.out.pab
  have Pba := Lib.hid LL.out.pba
  have T1 := Lib.hid LL.out.t1
  have Hbc := Lib.hid LL.out.bc
  have T2 := Lib.hid LL.out.t2
  have U1 := Lib.hid LL.out.u1
  have Pbc := Lib.hid LL.out.pbc
  have U2 := Lib.hid LL.out.u2
  have V1 := Lib.hid LL.out.v1
  have Pac := Lib.hid LL.out.pac
  have V2 := Lib.hid LL.out.v2
  have Bs1 := Lib.hid LL.out.bd.1
  have Bs2 := Lib.hid LL.out.bd.2.1
  have Bp1 := Lib.hid LL.out.bd.2.2.1
  have Bp2 := Lib.hid LL.out.bd.2.2.2.1
  have Bp3 := Lib.hid LL.out.bd.2.2.2.2
  have A0 : Hid (clampV (a + 0) = a) := by rw [Int.add_zero]; exact clampV_in Ba.out.1 Ba.out.2
  have A1 : Hid (clampV (a * 1) = a) := by rw [Int.mul_one]; exact clampV_in Ba.out.1 Ba.out.2
  have A2 : Hid (clampV (a * 0) = 0) := by rw [Int.mul_zero]; rfl
  have A3 : Hid (clampV (a - 0) = a) := by rw [Int.sub_zero]; exact clampV_in Ba.out.1 Ba.out.2
  have A4 : Hid (clampV (a - a) = 0) := by rw [Int.sub_self]; rfl
  have Bl : Hid ((0 : Int) ≤ 0 ∧ (0 : Int) ≤ 4611686018427387903) := ⟨by omega, by omega⟩
  subst hd
  go_enter Try.func6, Try.ntmps6
  go_wp2_with fail
  refine (awake1_any _).mono ?_
  rintro e w1 ⟨rfl, tt, rfl⟩
  go_wp2_with fail
  refine (tclamp_to _ x a CA.out).mono ?_
  rintro e w1 ⟨rfl, rfl⟩
  go_wp2_with fail
  refine (tclamp_to _ y b CB.out).mono ?_
  rintro e w1 ⟨rfl, rfl⟩
  go_wp2_with fail
  refine (tclamp_to _ z c CC.out).mono ?_
  rintro e w1 ⟨rfl, rfl⟩
  go_wp2_with fail
  refine (sum_to _ a b s1 Ba.out Bb.out Hab.out).mono ?_
  rintro e w1 ⟨rfl, rfl⟩
  go_wp2_with fail
  refine (sum_to _ b a s1 Bb.out Ba.out Hba.out).mono ?_
  rintro e w1 ⟨rfl, rfl⟩
  go_wp2_with fail
  refine (product_to _ a b p1 Ba.out Bb.out Pab.out).mono ?_
  rintro e w1 ⟨rfl, rfl⟩
  go_wp2_with fail
  refine (product_to _ b a p1 Bb.out Ba.out Pba.out).mono ?_
  rintro e w1 ⟨rfl, rfl⟩
  go_wp2_with fail
  refine (sum_to _ a b s1 Ba.out Bb.out Hab.out).mono ?_
  rintro e w1 ⟨rfl, rfl⟩
  go_wp2_with fail
  refine (sum_to _ s1 c t Bs1.out Bc.out T1.out).mono ?_
  rintro e w1 ⟨rfl, rfl⟩
  go_wp2_with fail
  refine (sum_to _ b c s2 Bb.out Bc.out Hbc.out).mono ?_
  rintro e w1 ⟨rfl, rfl⟩
  go_wp2_with fail
  refine (sum_to _ a s2 t Ba.out Bs2.out T2.out).mono ?_
  rintro e w1 ⟨rfl, rfl⟩
  go_wp2_with fail
  refine (product_to _ a b p1 Ba.out Bb.out Pab.out).mono ?_
  rintro e w1 ⟨rfl, rfl⟩
  go_wp2_with fail
  refine (product_to _ p1 c u Bp1.out Bc.out U1.out).mono ?_
  rintro e w1 ⟨rfl, rfl⟩
  go_wp2_with fail
  refine (product_to _ b c p2 Bb.out Bc.out Pbc.out).mono ?_
  rintro e w1 ⟨rfl, rfl⟩
  go_wp2_with fail
  refine (product_to _ a p2 u Ba.out Bp2.out U2.out).mono ?_
  rintro e w1 ⟨rfl, rfl⟩
  go_wp2_with fail
  refine (sum_to _ b c s2 Bb.out Bc.out Hbc.out).mono ?_
  rintro e w1 ⟨rfl, rfl⟩
  go_wp2_with fail
  refine (product_to _ a s2 v Ba.out Bs2.out V1.out).mono ?_
  rintro e w1 ⟨rfl, rfl⟩
  go_wp2_with fail
  refine (product_to _ a b p1 Ba.out Bb.out Pab.out).mono ?_
  rintro e w1 ⟨rfl, rfl⟩
  go_wp2_with fail
  refine (product_to _ a c p3 Ba.out Bc.out Pac.out).mono ?_
  rintro e w1 ⟨rfl, rfl⟩
  go_wp2_with fail
  refine (sum_to _ p1 p3 v Bp1.out Bp3.out V2.out).mono ?_
  rintro e w1 ⟨rfl, rfl⟩
  go_wp2_with fail
  refine (sum_to _ a 0 a Ba.out Bl.out A0.out).mono ?_
  rintro e w1 ⟨rfl, rfl⟩
  go_wp2_with fail
  refine (product_to _ a 1 a Ba.out ⟨by omega, by omega⟩ A1.out).mono ?_
  rintro e w1 ⟨rfl, rfl⟩
  go_wp2_with fail
  refine (product_to _ a 0 0 Ba.out Bl.out A2.out).mono ?_
  rintro e w1 ⟨rfl, rfl⟩
  go_wp2_with fail
  refine (less_to _ a 0 a Ba.out Bl.out A3.out).mono ?_
  rintro e w1 ⟨rfl, rfl⟩
  go_wp2_with fail
  refine (less_to _ a a 0 Ba.out Ba.out A4.out).mono ?_
  rintro e w1 ⟨rfl, rfl⟩
  go_wp2_with fail
  refine (sum_to _ a b s1 Ba.out Bb.out Hab.out).mono ?_
  rintro e w1 ⟨rfl, rfl⟩
  go_wp2_with fail
  refine (less_to _ a b 0 Ba.out Bb.out D1.out).mono ?_
  rintro e w1 ⟨rfl, rfl⟩
  go_wp2
  go_ret
  exact ⟨rfl, below_drewN (Below.refl _ _) tt⟩

theorem tickLaws_walk (x y z : Int) (w : World) (_ : (Lit.int .i64 x).wf = true) (_ : (Lit.int .i64 y).wf = true) (_ : (Lit.int .i64 z).wf = true) :
    Calls Try.prog 6 #[.int .i64 x, .int .i64 y, .int .i64 z] w fun e w' => e = .returned (.bool true) ∧ Below w.heap.size w w' := by
  have ha := clampV_bd x
  have hb := clampV_bd y
  have hc := clampV_bd z
  have LL := lawsOf ha hb hc
  have hd := clampV_bd (clampV x - clampV y)
  have hback := add_back ha hb
  have hsub : 0 < clampV (clampV x - clampV y) → clampV (clampV (clampV x - clampV y) + clampV y) = clampV x := by
    intro h
    rcases Int.lt_or_le (clampV x) (clampV y) with h1 | h1
    · rw [clampV_lo (n := clampV x - clampV y) (by omega)] at h; omega
    · rw [clampV_in (n := clampV x - clampV y) (by omega) (by omega), clampV_in (by omega) (by omega)]; omega
  rcases Int.lt_or_le (clampV (clampV x + clampV y)) 4611686018427387903 with h1 | h1
  · rcases Int.lt_or_le 0 (clampV (clampV x - clampV y)) with h2 | h2
    · exact laws_lg w x y z _ _ _ _ _ _ _ _ _ _ _ _ rfl rfl rfl LL ha hb hc hd rfl LL.le.1 LL.le.2 h1 (hback h1) h2 (hsub h2)
    · exact laws_le w x y z _ _ _ _ _ _ _ _ _ _ _ _ rfl rfl rfl LL ha hb hc hd rfl LL.le.1 LL.le.2 h1 (hback h1) (by omega)
  · rcases Int.lt_or_le 0 (clampV (clampV x - clampV y)) with h2 | h2
    · exact laws_gg w x y z _ _ _ _ _ _ _ _ _ _ _ _ rfl rfl rfl LL ha hb hc hd rfl LL.le.1 LL.le.2 h1 h2 (hsub h2)
    · exact laws_ge w x y z _ _ _ _ _ _ _ _ _ _ _ _ rfl rfl rfl LL ha hb hc hd rfl LL.le.1 LL.le.2 h1 (by omega)
end Go.Proofs.Ytjgnldalmenahaa
