/- The law TickSums, and the contracts of Add, Sub, Mul and of the document's answers for them. -/
import Derived.Test.YtjgnldalmenahaaClamps
import Derived.Test.YtjgnldalmenahaaTimes
namespace Go.Proofs.Ytjgnldalmenahaa
open Go.RowKit

def Two (w : World) (v : Int) (x : Int) (e : Ending) (w' : World) : Prop := e = .returned (.tuple #[.int .i64 v, .int .i64 x]) ∧ w = w'
def TwoB (w : World) (v : Int) (x : Int) (e : Ending) (w' : World) : Prop := e = .returned (.tuple #[.int .i64 v, .int .i64 x]) ∧ Below w.heap.size w w'

set_option maxHeartbeats 400000 in
theorem tadd_bad (w : World) (a b : Int) (h : isTick a = false ∨ isTick b = false) :
    Calls Try.prog 16 #[.int .i64 a, .int .i64 b] w (Two w 0 1) := by
  rcases Bool.eq_false_or_eq_true (isTick a) with h1 | h1
  · have h2 : isTick b = false := by simpa [h1] using h
    clear h
    go_enter Try.func16, Try.ntmps16
    go_wp2_with fail
    refine (tform_any _ a).mono ?_
    rintro e w1 ⟨rfl, rfl⟩
    go_wp2_with fail
    refine (tform_any _ b).mono ?_
    rintro e w1 ⟨rfl, rfl⟩
    go_wp2
    go_ret2
    exact ⟨rfl, rfl⟩
  · clear h
    go_enter Try.func16, Try.ntmps16
    go_wp2_with fail
    refine (tform_any _ a).mono ?_
    rintro e w1 ⟨rfl, rfl⟩
    go_wp2
    go_ret2
    exact ⟨rfl, rfl⟩

set_option maxHeartbeats 400000 in
theorem tsub_bad (w : World) (a b : Int) (h : isTick a = false ∨ isTick b = false) :
    Calls Try.prog 17 #[.int .i64 a, .int .i64 b] w (Two w 0 1) := by
  rcases Bool.eq_false_or_eq_true (isTick a) with h1 | h1
  · have h2 : isTick b = false := by simpa [h1] using h
    clear h
    go_enter Try.func17, Try.ntmps17
    go_wp2_with fail
    refine (tform_any _ a).mono ?_
    rintro e w1 ⟨rfl, rfl⟩
    go_wp2_with fail
    refine (tform_any _ b).mono ?_
    rintro e w1 ⟨rfl, rfl⟩
    go_wp2
    go_ret2
    exact ⟨rfl, rfl⟩
  · clear h
    go_enter Try.func17, Try.ntmps17
    go_wp2_with fail
    refine (tform_any _ a).mono ?_
    rintro e w1 ⟨rfl, rfl⟩
    go_wp2
    go_ret2
    exact ⟨rfl, rfl⟩

set_option maxHeartbeats 400000 in
theorem tmul_bad (w : World) (a b : Int) (h : isTick a = false ∨ isTick b = false) :
    Calls Try.prog 18 #[.int .i64 a, .int .i64 b] w (Two w 0 1) := by
  rcases Bool.eq_false_or_eq_true (isTick a) with h1 | h1
  · have h2 : isTick b = false := by simpa [h1] using h
    clear h
    go_enter Try.func18, Try.ntmps18
    go_wp2_with fail
    refine (tform_any _ a).mono ?_
    rintro e w1 ⟨rfl, rfl⟩
    go_wp2_with fail
    refine (tform_any _ b).mono ?_
    rintro e w1 ⟨rfl, rfl⟩
    go_wp2
    go_ret2
    exact ⟨rfl, rfl⟩
  · clear h
    go_enter Try.func18, Try.ntmps18
    go_wp2_with fail
    refine (tform_any _ a).mono ?_
    rintro e w1 ⟨rfl, rfl⟩
    go_wp2
    go_ret2
    exact ⟨rfl, rfl⟩

set_option maxHeartbeats 400000 in
theorem tadd_ok (w : World) (a b : Int) (ha : 0 ≤ a ∧ a ≤ 4611686018427387903) (hb : 0 ≤ b ∧ b ≤ 4611686018427387903) :
    Calls Try.prog 16 #[.int .i64 a, .int .i64 b] w (Two w (clampV (a + b)) 0) := by
  have h1 : isTick a = true := isTick_iff.2 ha
  have h2 : isTick b = true := isTick_iff.2 hb
  obtain ⟨ha0, ha1⟩ := ha
  obtain ⟨hb0, hb1⟩ := hb
  go_enter Try.func16, Try.ntmps16
  go_wp2_with fail
  refine (tform_any _ (a : Int)).mono ?_
  rintro e w1 ⟨rfl, rfl⟩
  go_wp2_with fail
  refine (tform_any _ (b : Int)).mono ?_
  rintro e w1 ⟨rfl, rfl⟩
  go_wp2_with fail
  refine (tclamp_any _ (a + b)).mono ?_
  rintro e w1 ⟨rfl, rfl⟩
  go_wp2
  go_ret2
  exact ⟨rfl, rfl⟩

set_option maxHeartbeats 400000 in
theorem tsub_ok (w : World) (a b : Int) (ha : 0 ≤ a ∧ a ≤ 4611686018427387903) (hb : 0 ≤ b ∧ b ≤ 4611686018427387903) :
    Calls Try.prog 17 #[.int .i64 a, .int .i64 b] w (Two w (clampV (a - b)) 0) := by
  have h1 : isTick a = true := isTick_iff.2 ha
  have h2 : isTick b = true := isTick_iff.2 hb
  obtain ⟨ha0, ha1⟩ := ha
  obtain ⟨hb0, hb1⟩ := hb
  go_enter Try.func17, Try.ntmps17
  go_wp2_with fail
  refine (tform_any _ (a : Int)).mono ?_
  rintro e w1 ⟨rfl, rfl⟩
  go_wp2_with fail
  refine (tform_any _ (b : Int)).mono ?_
  rintro e w1 ⟨rfl, rfl⟩
  go_wp2_with fail
  refine (tclamp_any _ (a - b)).mono ?_
  rintro e w1 ⟨rfl, rfl⟩
  go_wp2
  go_ret2
  exact ⟨rfl, rfl⟩

theorem mul_lt_iff {a b m : Int} (ha : 0 < a) : m / a < b ↔ m < a * b := by
  rw [Int.mul_comm]
  exact Int.ediv_lt_iff_lt_mul ha

set_option maxHeartbeats 400000 in
theorem tmul_ok (w : World) (a b : Int) (ha : 0 ≤ a ∧ a ≤ 4611686018427387903) (hb : 0 ≤ b ∧ b ≤ 4611686018427387903) :
    Calls Try.prog 18 #[.int .i64 a, .int .i64 b] w (Two w (clampV (a * b)) 0) := by
  have h1 : isTick a = true := isTick_iff.2 ha
  have h2 : isTick b = true := isTick_iff.2 hb
  obtain ⟨ha0, ha1⟩ := ha
  obtain ⟨hb0, hb1⟩ := hb
  rcases Int.lt_or_le 0 a with h3 | h3
  · have hz : (!((a : Int) == 0)) = true := by simp; omega
    have hq0 : 0 ≤ 4611686018427387903 / a := Int.ediv_nonneg (by omega) ha0
    have hq1 : 4611686018427387903 / a ≤ 4611686018427387903 := Int.ediv_le_self _ (by omega)
    have hab : 0 ≤ a * b := Int.mul_nonneg ha0 hb0
    have hiff := mul_lt_iff (b := b) (m := 4611686018427387903) h3
    rcases Int.lt_or_le 4611686018427387903 (a * b) with h4 | h4
    · have hlt := hiff.2 h4
      have HC := Lib.hid (clampV_hi h4)
      clear hiff hab h4
      go_enter Try.func18, Try.ntmps18
      go_wp2_with fail
      refine (tform_any _ (a : Int)).mono ?_
      rintro e w1 ⟨rfl, rfl⟩
      go_wp2_with fail
      refine (tform_any _ (b : Int)).mono ?_
      rintro e w1 ⟨rfl, rfl⟩
      go_wp2
      go_ret2
      exact ⟨ret_ii HC.out.symm rfl, rfl⟩
    · have hge : ¬ 4611686018427387903 / a < b := fun h => by have := hiff.1 h; omega
      have hge' : b ≤ 4611686018427387903 / a := by omega
      have HC := Lib.hid (clampV_in hab h4)
      clear hiff hge
      go_enter Try.func18, Try.ntmps18
      go_wp2_with fail
      refine (tform_any _ (a : Int)).mono ?_
      rintro e w1 ⟨rfl, rfl⟩
      go_wp2_with fail
      refine (tform_any _ (b : Int)).mono ?_
      rintro e w1 ⟨rfl, rfl⟩
      go_wp2
      go_ret2
      exact ⟨ret_ii HC.out.symm rfl, rfl⟩
  · obtain rfl : a = 0 := by omega
    have hc : clampV (0 * b) = 0 := by rw [Int.zero_mul]; rfl
    have HC := Lib.hid hc
    clear hc
    go_enter Try.func18, Try.ntmps18
    go_wp2_with fail
    refine (tform_any _ 0).mono ?_
    rintro e w1 ⟨rfl, rfl⟩
    go_wp2_with fail
    refine (tform_any _ (b : Int)).mono ?_
    rintro e w1 ⟨rfl, rfl⟩
    go_wp2
    go_ret2
    exact ⟨ret_ii HC.out.symm rfl, rfl⟩

set_option maxHeartbeats 400000 in
theorem radd_ok (w : World) (a b : Nat) (ha : a ≤ 4611686018427387903) (hb : b ≤ 4611686018427387903) :
    Calls Try.prog 46 #[.int .i64 (a : Int), .int .i64 (b : Int)] w fun e w' => e = .returned (.int .i64 (clampV ((a : Int) + b))) ∧ Below w.heap.size w w' := by
  have hh : heldV (a + b) = clampV ((a : Int) + b) := by rw [heldV_clamp]; simp
  have HH := Lib.hid hh
  clear hh
  go_enter Try.func46, Try.ntmps46
  go_wp2_with fail
  refine (word_any _ a (by omega)).mono ?_
  rintro e w1 ⟨A, n, c, xs, rfl, hna, hla, hb1⟩
  go_wp2_with fail
  refine (word_any _ b (by omega)).mono ?_
  rintro e w2 ⟨B, m, d, ys, rfl, hnb, hlb, hb2⟩
  go_wp2_with fail
  refine (plus_any _ _ _ _ _ _ _ _ _ a b (hna.below hb2) hnb (by omega) (by omega)).mono ?_
  rintro e w3 ⟨C, l, c3, zs, rfl, hnc, hlc, hb3⟩
  go_wp2_with fail
  refine (held_any _ _ _ _ _ _ hnc).mono ?_
  rintro e w4 ⟨rfl, rfl⟩
  have HB : Hid (Below w.heap.size w w3) := (hb1.trans (hb2.mono hb1.size)).trans (hb3.mono (Nat.le_trans hb1.size hb2.size))
  clear hb1 hb2 hb3 hna hnb hnc
  go_wp2
  go_ret
  exact ⟨ret_int HH.out, HB.out⟩

set_option maxHeartbeats 400000 in
theorem rmul_ok (w : World) (a b : Nat) (ha : a ≤ 4611686018427387903) (hb : b ≤ 4611686018427387903) :
    Calls Try.prog 48 #[.int .i64 (a : Int), .int .i64 (b : Int)] w fun e w' => e = .returned (.int .i64 (clampV ((a : Int) * b))) ∧ Below w.heap.size w w' := by
  have hh : heldV (a * b) = clampV ((a : Int) * b) := by rw [heldV_clamp]; simp
  have HH := Lib.hid hh
  clear hh
  go_enter Try.func48, Try.ntmps48
  go_wp2_with fail
  refine (word_any _ a (by omega)).mono ?_
  rintro e w1 ⟨A, n, c, xs, rfl, hna, hla, hb1⟩
  go_wp2_with fail
  refine (word_any _ b (by omega)).mono ?_
  rintro e w2 ⟨B, m, d, ys, rfl, hnb, hlb, hb2⟩
  go_wp2_with fail
  refine (times_any _ _ _ _ _ _ _ _ _ a b (hna.below hb2) hnb (by omega) (by omega)).mono ?_
  rintro e w3 ⟨C, l, c3, zs, rfl, hnc, hlc, hb3⟩
  go_wp2_with fail
  refine (held_any _ _ _ _ _ _ hnc).mono ?_
  rintro e w4 ⟨rfl, rfl⟩
  have HB : Hid (Below w.heap.size w w3) := (hb1.trans (hb2.mono hb1.size)).trans (hb3.mono (Nat.le_trans hb1.size hb2.size))
  clear hb1 hb2 hb3 hna hnb hnc
  go_wp2
  go_ret
  exact ⟨ret_int HH.out, HB.out⟩

set_option maxHeartbeats 400000 in
theorem rsub_ok (w : World) (a b : Nat) (ha : a ≤ 4611686018427387903) (hb : b ≤ 4611686018427387903) :
    Calls Try.prog 47 #[.int .i64 (a : Int), .int .i64 (b : Int)] w fun e w' => e = .returned (.int .i64 (clampV ((a : Int) - b))) ∧ Below w.heap.size w w' := by
  rcases Nat.lt_or_ge a b with h | h
  · have HH := Lib.hid (clampV_lo (n := (a : Int) - b) (by omega))
    go_enter Try.func47, Try.ntmps47
    go_wp2
    go_ret
    exact ⟨ret_int HH.out.symm, Below.refl _ _⟩
  · have HH := Lib.hid (clampV_in (n := (a : Int) - b) (by omega) (by omega))
    go_enter Try.func47, Try.ntmps47
    go_wp2
    go_ret
    exact ⟨ret_int HH.out.symm, Below.refl _ _⟩

set_option maxHeartbeats 400000 in
theorem two_bad (w : World) (k a b : Int) (h : isTick a = false ∨ isTick b = false) :
    Calls Try.prog 19 #[.int .i64 k, .int .i64 a, .int .i64 b] w (Two w 0 1) := by
  rcases Bool.eq_false_or_eq_true (isTick a) with h1 | h1
  · have h2 : isTick b = false := by simpa [h1] using h
    clear h
    go_enter Try.func19, Try.ntmps19
    go_wp2_with fail
    refine (rform_any _ (a : Int)).mono ?_
    rintro e w1 ⟨rfl, rfl⟩
    go_wp2_with fail
    refine (rform_any _ (b : Int)).mono ?_
    rintro e w1 ⟨rfl, rfl⟩
    go_wp2
    go_ret2
    exact ⟨rfl, rfl⟩
  · clear h
    go_enter Try.func19, Try.ntmps19
    go_wp2_with fail
    refine (rform_any _ a).mono ?_
    rintro e w1 ⟨rfl, rfl⟩
    go_wp2
    go_ret2
    exact ⟨rfl, rfl⟩

set_option maxHeartbeats 400000 in
theorem two_add (w : World) (a b : Nat) (ha : a ≤ 4611686018427387903) (hb : b ≤ 4611686018427387903) :
    Calls Try.prog 19 #[.int .i64 0, .int .i64 (a : Int), .int .i64 (b : Int)] w (TwoB w (clampV ((a : Int) + b)) 0) := by
  have h1 : isTick (a : Int) = true := isTick_iff.2 ⟨by omega, by omega⟩
  have h2 : isTick (b : Int) = true := isTick_iff.2 ⟨by omega, by omega⟩
  go_enter Try.func19, Try.ntmps19
  go_wp2_with fail
  refine (rform_any _ (a : Int)).mono ?_
  rintro e w1 ⟨rfl, rfl⟩
  go_wp2_with fail
  refine (rform_any _ (b : Int)).mono ?_
  rintro e w1 ⟨rfl, rfl⟩
  go_wp2_with fail
  refine (radd_ok _ a b ha hb).mono ?_
  rintro e w1 ⟨rfl, hb1⟩
  go_wp2
  go_ret2
  exact ⟨rfl, hb1⟩

set_option maxHeartbeats 400000 in
theorem two_sub (w : World) (a b : Nat) (ha : a ≤ 4611686018427387903) (hb : b ≤ 4611686018427387903) :
    Calls Try.prog 19 #[.int .i64 1, .int .i64 (a : Int), .int .i64 (b : Int)] w (TwoB w (clampV ((a : Int) - b)) 0) := by
  have h1 : isTick (a : Int) = true := isTick_iff.2 ⟨by omega, by omega⟩
  have h2 : isTick (b : Int) = true := isTick_iff.2 ⟨by omega, by omega⟩
  go_enter Try.func19, Try.ntmps19
  go_wp2_with fail
  refine (rform_any _ (a : Int)).mono ?_
  rintro e w1 ⟨rfl, rfl⟩
  go_wp2_with fail
  refine (rform_any _ (b : Int)).mono ?_
  rintro e w1 ⟨rfl, rfl⟩
  go_wp2_with fail
  refine (rsub_ok _ a b ha hb).mono ?_
  rintro e w1 ⟨rfl, hb1⟩
  go_wp2
  go_ret2
  exact ⟨rfl, hb1⟩

set_option maxHeartbeats 400000 in
theorem two_mul (w : World) (a b : Nat) (ha : a ≤ 4611686018427387903) (hb : b ≤ 4611686018427387903) :
    Calls Try.prog 19 #[.int .i64 2, .int .i64 (a : Int), .int .i64 (b : Int)] w (TwoB w (clampV ((a : Int) * b)) 0) := by
  have h1 : isTick (a : Int) = true := isTick_iff.2 ⟨by omega, by omega⟩
  have h2 : isTick (b : Int) = true := isTick_iff.2 ⟨by omega, by omega⟩
  go_enter Try.func19, Try.ntmps19
  go_wp2_with fail
  refine (rform_any _ (a : Int)).mono ?_
  rintro e w1 ⟨rfl, rfl⟩
  go_wp2_with fail
  refine (rform_any _ (b : Int)).mono ?_
  rintro e w1 ⟨rfl, rfl⟩
  go_wp2_with fail
  refine (rmul_ok _ a b ha hb).mono ?_
  rintro e w1 ⟨rfl, hb1⟩
  go_wp2
  go_ret2
  exact ⟨rfl, hb1⟩

set_option maxHeartbeats 800000 in
theorem tickSums_walk (a b : Int) (w : World) (wa : (Lit.int .i64 a).wf = true) (wb : (Lit.int .i64 b).wf = true) :
    Calls Try.prog 3 #[.int .i64 a, .int .i64 b] w fun e w' => e = .returned (.bool true) ∧ Below w.heap.size w w' := by
  have hba := bounds_i64 wa
  have hbb := bounds_i64 wb
  clear wa wb
  by_cases h : isTick a = true ∧ isTick b = true
  · obtain ⟨ha0, ha1⟩ := isTick_iff.1 h.1
    obtain ⟨hb0, hb1⟩ := isTick_iff.1 h.2
    clear h
    obtain ⟨a, rfl⟩ := Int.eq_ofNat_of_zero_le ha0
    obtain ⟨b, rfl⟩ := Int.eq_ofNat_of_zero_le hb0
    go_enter Try.func3, Try.ntmps3
    go_wp2_with fail
    refine (awake1_any _).mono ?_
    rintro e w1 ⟨rfl, t, rfl⟩
    go_wp2_with fail
    refine (tadd_ok _ (a : Int) (b : Int) ⟨by omega, by omega⟩ ⟨by omega, by omega⟩).mono ?_
    rintro e w1 ⟨rfl, rfl⟩
    go_wp2_with fail
    refine (tsub_ok _ (a : Int) (b : Int) ⟨by omega, by omega⟩ ⟨by omega, by omega⟩).mono ?_
    rintro e w1 ⟨rfl, rfl⟩
    go_wp2_with fail
    refine (tmul_ok _ (a : Int) (b : Int) ⟨by omega, by omega⟩ ⟨by omega, by omega⟩).mono ?_
    rintro e w1 ⟨rfl, rfl⟩
    go_wp2_with fail
    refine (two_add _ a b (by omega) (by omega)).mono ?_
    rintro e w1 ⟨rfl, hb1⟩
    have HB1 := Lib.hid hb1
    clear hb1
    go_wp2_with fail
    refine (two_sub _ a b (by omega) (by omega)).mono ?_
    rintro e w2 ⟨rfl, hb2⟩
    have HB2 := Lib.hid hb2
    clear hb2
    go_wp2_with fail
    refine (two_mul _ a b (by omega) (by omega)).mono ?_
    rintro e w3 ⟨rfl, hb3⟩
    have HB3 := Lib.hid hb3
    clear hb3
    go_wp2
    go_ret
    exact ⟨rfl, (below_drewN (Below.refl _ _) t).trans ((HB1.out.trans (HB2.out.mono HB1.out.size)).trans (HB3.out.mono (Nat.le_trans HB1.out.size HB2.out.size)))⟩
  · have h' : isTick a = false ∨ isTick b = false := by
      rcases Bool.eq_false_or_eq_true (isTick a) with h1 | h1
      · exact .inr (by simpa [h1] using h)
      · exact .inl h1
    have H := Lib.hid h'
    clear h h'
    go_enter Try.func3, Try.ntmps3
    go_wp2_with fail
    refine (awake1_any _).mono ?_
    rintro e w1 ⟨rfl, t, rfl⟩
    go_wp2_with fail
    refine (tadd_bad _ a b H.out).mono ?_
    rintro e w1 ⟨rfl, rfl⟩
    go_wp2_with fail
    refine (tsub_bad _ a b H.out).mono ?_
    rintro e w1 ⟨rfl, rfl⟩
    go_wp2_with fail
    refine (tmul_bad _ a b H.out).mono ?_
    rintro e w1 ⟨rfl, rfl⟩
    go_wp2_with fail
    refine (two_bad _ 0 a b H.out).mono ?_
    rintro e w1 ⟨rfl, rfl⟩
    go_wp2_with fail
    refine (two_bad _ 1 a b H.out).mono ?_
    rintro e w1 ⟨rfl, rfl⟩
    go_wp2_with fail
    refine (two_bad _ 2 a b H.out).mono ?_
    rintro e w1 ⟨rfl, rfl⟩
    go_wp2
    go_ret
    exact ⟨rfl, below_drewN (Below.refl _ _) t⟩
end Go.Proofs.Ytjgnldalmenahaa
