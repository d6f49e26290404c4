/- The law TickQuotients, and the contracts of Div, Ceil and of the document's answers for them. -/
import Derived.Test.YtjgnldalmenahaaClamps
import Derived.Test.YtjgnldalmenahaaQuo
namespace Go.Proofs.Ytjgnldalmenahaa
open Go.RowKit

theorem tdiv_qr (w : World) (a b q r : Nat) (hq : a / b = q) (hr : a % b = r) (ha : a ≤ 4611686018427387903) (hb : b ≤ 4611686018427387903) (h0 : 1 ≤ b) :
    Calls Try.prog 20 #[.int .i64 (a : Int), .int .i64 (b : Int)] w fun e w' => e = .returned (.tuple #[.int .i64 (q : Int), .int .i64 (r : Int), .int .i64 0]) ∧ ∃ t, w' = w.drewN t := by
  have h := tdiv_ok w a b ha hb h0
  rw [hq, hr] at h
  exact h

/-- The quotient rounded up, out of quotient and remainder. -/
def upV (q r : Nat) : Int := if r = 0 then (q : Int) else (q : Int) + 1
theorem upV_zero (q : Nat) : upV q 0 = q := rfl
theorem upV_pos {q r : Nat} (h : 0 < r) : upV q r = (q : Int) + 1 := by unfold upV; rw [if_neg (by omega)]

set_option maxHeartbeats 400000 in
theorem tceil_qr (w : World) (a b q r : Nat) (hq : a / b = q) (hr : a % b = r) (ha : a ≤ 4611686018427387903) (hb : b ≤ 4611686018427387903) (h0 : 1 ≤ b) :
    Calls Try.prog 22 #[.int .i64 (a : Int), .int .i64 (b : Int)] w fun e w' => e = .returned (.tuple #[.int .i64 (upV q r), .int .i64 0]) ∧ ∃ t, w' = w.drewN t := by
  have hqa : q ≤ 4611686018427387903 := by have := Nat.div_le_self a b; omega
  have HQ := Lib.hid hq
  have HR := Lib.hid hr
  clear hq hr
  rcases Nat.eq_zero_or_pos r with h1 | h1
  · subst h1
    go_enter Try.func22, Try.ntmps22
    go_wp2_with fail
    refine (tdiv_qr _ a b q 0 HQ.out HR.out ha hb h0).mono ?_
    rintro e w1 ⟨rfl, t, rfl⟩
    go_wp2
    go_ret2
    exact ⟨rfl, t, rfl⟩
  · have HU := Lib.hid (upV_pos (q := q) h1)
    go_enter Try.func22, Try.ntmps22
    go_wp2_with fail
    refine (tdiv_qr _ a b q r HQ.out HR.out ha hb h0).mono ?_
    rintro e w1 ⟨rfl, t, rfl⟩
    go_wp2
    go_ret2
    exact ⟨ret_ii HU.out.symm rfl, t, rfl⟩

set_option maxHeartbeats 400000 in
theorem tceil_bad (w : World) (a b : Int) (h : isTick a = false ∨ isTick b = false ∨ b = 0) :
    Calls Try.prog 22 #[.int .i64 a, .int .i64 b] w fun e w' => e = .returned (.tuple #[.int .i64 0, .int .i64 1]) ∧ w = w' := by
  have H := Lib.hid h
  clear h
  go_enter Try.func22, Try.ntmps22
  go_wp2_with fail
  refine (tdiv_bad _ a b H.out).mono ?_
  rintro e w1 ⟨rfl, rfl⟩
  go_wp2
  go_ret2
  exact ⟨rfl, rfl⟩

set_option maxHeartbeats 400000 in
theorem rdiv_qr (w : World) (a b q r : Nat) (hq : a / b = q) (hr : a % b = r) (ha : a ≤ 4611686018427387903) (hb : b ≤ 4611686018427387903) (h0 : 1 ≤ b) :
    Calls Try.prog 21 #[.int .i64 (a : Int), .int .i64 (b : Int)] w fun e w' => e = .returned (.tuple #[.int .i64 (q : Int), .int .i64 (r : Int), .int .i64 0]) ∧ Below w.heap.size w w' := by
  have h1 : isTick (a : Int) = true := isTick_iff.2 ⟨by omega, by omega⟩
  have h2 : isTick (b : Int) = true := isTick_iff.2 ⟨by omega, by omega⟩
  have hd : ((b : Int) == 0) = false := by simp; omega
  have hqa : q ≤ 4611686018427387903 := by have := Nat.div_le_self a b; omega
  have hra : r ≤ 4611686018427387903 := by have := Nat.mod_lt a (show 0 < b by omega); omega
  have HQ := Lib.hid hq
  have HR := Lib.hid hr
  have HHQ := Lib.hid (heldV_le hqa)
  have HHR := Lib.hid (heldV_le hra)
  clear hq hr
  go_enter Try.func21, Try.ntmps21
  go_wp2_with fail
  refine (rform_any _ (a : Int)).mono ?_
  rintro e w1 ⟨rfl, rfl⟩
  go_wp2_with fail
  refine (rform_any _ (b : Int)).mono ?_
  rintro e w1 ⟨rfl, rfl⟩
  go_wp2_with fail
  refine (word_any _ a (by omega)).mono ?_
  rintro e w1 ⟨A, n, c, xs, rfl, hna, hla, hb1⟩
  have HA1 := Lib.hid hna
  have HB1 := Lib.hid hb1
  clear hna hb1
  go_wp2_with fail
  refine (word_any _ b (by omega)).mono ?_
  rintro e w2 ⟨B, m, d, ys, rfl, hnb, hlb, hb2⟩
  have hbb := HB1.out.trans (hb2.mono HB1.out.size)
  have HBB := Lib.hid hbb
  have hnq := quo_any _ _ _ _ _ _ _ _ _ a b (HA1.out.below hb2) hnb (by omega) (by omega) (by omega)
  have HNQ := Lib.hid hnq
  clear hbb hnq hb2 hnb
  go_wp2_with fail
  refine HNQ.out.mono ?_
  rintro e w3 ⟨Q, n3, c3, qs, R, n4, c4, rs, rfl, hnq, hnr, _, hb3⟩
  have HNQ2 := Lib.hid hnq
  have HNR2 := Lib.hid hnr
  have HB3 := Lib.hid hb3
  clear hnq hnr hb3 HNQ
  go_wp2_with fail
  refine (held_any _ _ _ _ _ _ HNQ2.out).mono ?_
  rintro e w4 ⟨rfl, rfl⟩
  go_wp2_with fail
  refine (held_any _ _ _ _ _ _ HNR2.out).mono ?_
  rintro e w4 ⟨rfl, rfl⟩
  go_wp2
  go_ret3
  exact ⟨ret_iii (by rw [HQ.out, HHQ.out]) (by rw [HR.out, HHR.out]) rfl, HBB.out.trans (HB3.out.mono HBB.out.size)⟩

set_option maxHeartbeats 400000 in
theorem rdiv_bad (w : World) (a b : Int) (h : isTick a = false ∨ isTick b = false ∨ b = 0) :
    Calls Try.prog 21 #[.int .i64 a, .int .i64 b] w fun e w' => e = .returned (.tuple #[.int .i64 0, .int .i64 0, .int .i64 1]) ∧ w = w' := by
  rcases Bool.eq_false_or_eq_true (isTick a) with h1 | h1
  · rcases Bool.eq_false_or_eq_true (isTick b) with h2 | h2
    · have hb : b = 0 := by simpa [h1, h2] using h
      subst hb
      clear h
      go_enter Try.func21, Try.ntmps21
      go_wp2_with fail
      refine (rform_any _ a).mono ?_
      rintro e w1 ⟨rfl, rfl⟩
      go_wp2_with fail
      refine (rform_any _ 0).mono ?_
      rintro e w1 ⟨rfl, rfl⟩
      go_wp2
      go_ret3
      exact ⟨rfl, rfl⟩
    · clear h
      go_enter Try.func21, Try.ntmps21
      go_wp2_with fail
      refine (rform_any _ a).mono ?_
      rintro e w1 ⟨rfl, rfl⟩
      go_wp2_with fail
      refine (rform_any _ b).mono ?_
      rintro e w1 ⟨rfl, rfl⟩
      go_wp2
      go_ret3
      exact ⟨rfl, rfl⟩
  · clear h
    go_enter Try.func21, Try.ntmps21
    go_wp2_with fail
    refine (rform_any _ a).mono ?_
    rintro e w1 ⟨rfl, rfl⟩
    go_wp2
    go_ret3
    exact ⟨rfl, rfl⟩

set_option maxHeartbeats 400000 in
theorem rceil_qr (w : World) (a b q r : Nat) (hq : a / b = q) (hr : a % b = r) (ha : a ≤ 4611686018427387903) (hb : b ≤ 4611686018427387903) (h0 : 1 ≤ b) :
    Calls Try.prog 23 #[.int .i64 (a : Int), .int .i64 (b : Int)] w fun e w' => e = .returned (.tuple #[.int .i64 (upV q r), .int .i64 0]) ∧ Below w.heap.size w w' := by
  have hqa : q ≤ 4611686018427387903 := by have := Nat.div_le_self a b; omega
  have HQ := Lib.hid hq
  have HR := Lib.hid hr
  clear hq hr
  rcases Nat.eq_zero_or_pos r with h1 | h1
  · subst h1
    go_enter Try.func23, Try.ntmps23
    go_wp2_with fail
    refine (rdiv_qr _ a b q 0 HQ.out HR.out ha hb h0).mono ?_
    rintro e w1 ⟨rfl, hb1⟩
    have HB := Lib.hid hb1
    clear hb1
    go_wp2
    go_ret2
    exact ⟨rfl, HB.out⟩
  · have HU := Lib.hid (upV_pos (q := q) h1)
    go_enter Try.func23, Try.ntmps23
    go_wp2_with fail
    refine (rdiv_qr _ a b q r HQ.out HR.out ha hb h0).mono ?_
    rintro e w1 ⟨rfl, hb1⟩
    have HB := Lib.hid hb1
    clear hb1
    go_wp2
    go_ret2
    exact ⟨ret_ii HU.out.symm rfl, HB.out⟩

set_option maxHeartbeats 400000 in
theorem rceil_bad (w : World) (a b : Int) (h : isTick a = false ∨ isTick b = false ∨ b = 0) :
    Calls Try.prog 23 #[.int .i64 a, .int .i64 b] w fun e w' => e = .returned (.tuple #[.int .i64 0, .int .i64 1]) ∧ w = w' := by
  have H := Lib.hid h
  clear h
  go_enter Try.func23, Try.ntmps23
  go_wp2_with fail
  refine (rdiv_bad _ a b H.out).mono ?_
  rintro e w1 ⟨rfl, rfl⟩
  go_wp2
  go_ret2
  exact ⟨rfl, rfl⟩

set_option maxHeartbeats 800000 in
theorem tickQuotients_walk (a b : Int) (w : World) (wa : (Lit.int .i64 a).wf = true) (wb : (Lit.int .i64 b).wf = true) :
    Calls Try.prog 4 #[.int .i64 a, .int .i64 b] w fun e w' => e = .returned (.bool true) ∧ Below w.heap.size w w' := by
  have hba := bounds_i64 wa
  have hbb := bounds_i64 wb
  clear wa wb
  by_cases h : isTick a = true ∧ isTick b = true ∧ b ≠ 0
  · obtain ⟨ha0, ha1⟩ := isTick_iff.1 h.1
    obtain ⟨hb0, hb1⟩ := isTick_iff.1 h.2.1
    have hbn := h.2.2
    have hb2 : 1 ≤ b.toNat := by omega
    clear h
    obtain ⟨a, rfl⟩ := Int.eq_ofNat_of_zero_le ha0
    obtain ⟨b, rfl⟩ := Int.eq_ofNat_of_zero_le hb0
    rw [Int.toNat_natCast] at hb2
    have HQ : Hid (a / b = a / b) := rfl
    have HR : Hid (a % b = a % b) := rfl
    revert HQ HR
    generalize hq : a / b = q
    generalize hr : a % b = r
    intro _ _
    have HQ := Lib.hid hq
    have HR := Lib.hid hr
    clear hq hr hbn
    go_enter Try.func4, Try.ntmps4
    go_wp2_with fail
    refine (tdiv_qr _ a b _ _ HQ.out HR.out (by omega) (by omega) hb2).mono ?_
    rintro e w1 ⟨rfl, t1, rfl⟩
    go_wp2_with fail
    refine (rdiv_qr _ a b _ _ HQ.out HR.out (by omega) (by omega) hb2).mono ?_
    rintro e w1 ⟨rfl, g1⟩
    have HB1 := Lib.hid g1
    clear g1
    go_wp2_with fail
    refine (tceil_qr _ a b _ _ HQ.out HR.out (by omega) (by omega) hb2).mono ?_
    rintro e w2 ⟨rfl, t2, rfl⟩
    go_wp2_with fail
    refine (rceil_qr _ a b _ _ HQ.out HR.out (by omega) (by omega) hb2).mono ?_
    rintro e w2 ⟨rfl, g2⟩
    have HB2 := Lib.hid g2
    clear g2
    go_wp2_with fail
    refine (awake1_any _).mono ?_
    rintro e w3 ⟨rfl, t3, rfl⟩
    go_wp2
    go_ret
    exact ⟨rfl, below_drewN ((below_drewN ((below_drewN (Below.refl _ _) t1).trans HB1.out) t2).trans (HB2.out.mono HB1.out.size)) t3⟩
  · have h' : isTick a = false ∨ isTick b = false ∨ b = 0 := by
      rcases Bool.eq_false_or_eq_true (isTick a) with h1 | h1
      · rcases Bool.eq_false_or_eq_true (isTick b) with h2 | h2
        · exact .inr (.inr (by simpa [h1, h2] using h))
        · exact .inr (.inl h2)
      · exact .inl h1
    have H := Lib.hid h'
    clear h h'
    go_enter Try.func4, Try.ntmps4
    go_wp2_with fail
    refine (tdiv_bad _ a b H.out).mono ?_
    rintro e w1 ⟨rfl, rfl⟩
    go_wp2_with fail
    refine (rdiv_bad _ a b H.out).mono ?_
    rintro e w1 ⟨rfl, rfl⟩
    go_wp2_with fail
    refine (tceil_bad _ a b H.out).mono ?_
    rintro e w1 ⟨rfl, rfl⟩
    go_wp2_with fail
    refine (rceil_bad _ a b H.out).mono ?_
    rintro e w1 ⟨rfl, rfl⟩
    go_wp2_with fail
    refine (awake1_any _).mono ?_
    rintro e w1 ⟨rfl, t, rfl⟩
    go_wp2
    go_ret
    exact ⟨rfl, below_drewN (Below.refl _ _) t⟩
end Go.Proofs.Ytjgnldalmenahaa
