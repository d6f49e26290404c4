/- Quantiles: between the least and the greatest; a greater share, no lesser quantile. -/
import Derived.Test.YtffibfnagoagcaaQtE
namespace Go.Proofs.Ytffibfnagoagcaa
open Ieee
set_option maxRecDepth 100000
set_option linter.unusedVariables false

theorem roundV_mid {t N M : Nat} (hM : 0 < M) (h : 2 * N < 2 * (t * M) + M) : roundV N M 2 ≤ t := by
  have hd := Nat.div_add_mod N M
  have hl := Nat.mod_lt N hM
  have e : N / M * M = M * (N / M) := Nat.mul_comm _ _
  have b1 : N / M ≤ t := by
    rcases Nat.lt_or_ge t (N / M) with h1 | h1
    · have : (t + 1) * M ≤ N / M * M := Nat.mul_le_mul_right _ h1
      rw [Nat.add_mul] at this
      omega
    · exact h1
  rcases Nat.lt_or_ge (N / M) t with h1 | h1
  · have := roundV_le_succ N M 2
    omega
  · have ht : N / M = t := by omega
    have e2 : t * M = M * (N / M) := by rw [ht, Nat.mul_comm]
    unfold roundV
    rw [upB_false (by omega), ht]
    exact Nat.le_refl _
theorem K53 : (2 : Nat) ^ 53 = 9007199254740992 := by decide
theorem one_pred : WS 4607182418800017407 * 9007199254740992 = 9007199254740991 * 2 ^ cE := by
  obtain ⟨c, hc⟩ : ∃ c, c = 1021 := ⟨_, rfl⟩
  have e1 : pS 4607182418800017407 = c := by rw [hc]; decide
  have e2 : manS 4607182418800017407 = 9007199254740991 := by decide
  have e3 : cE = c + 53 := by rw [hc]; rfl
  clear hc
  unfold WS
  rw [e1, e2, e3, Nat.pow_add 2 c 53, K53, Nat.mul_assoc]
theorem ar1 {X W Y : Nat} (h : X * 9007199254740992 ≤ 9007199254740991 * W) (hW : 4503599627370497 * Y ≤ W) (hY : 0 < Y) : 2 * X + Y < 2 * W := by omega
/-- A part of a rounded difference is at most the difference. -/
theorem mul_below {sf sd sm D : Nat} (hd : Rd D (2 ^ cE) sd) (hm : Rd (WS sf * WS sd) (2 ^ cE * 2 ^ cE) sm) (hf : sf < 4607182418800017408) : WS sm ≤ D := by
  have hZ := cE_pos
  have hx : WS sf * WS sd * 9007199254740992 ≤ 9007199254740991 * (2 ^ cE * WS sd) := by
    have h2 := WS_le.2 (show sf ≤ 4607182418800017407 by omega)
    have h3 := Nat.mul_le_mul_right 9007199254740992 h2
    rw [one_pred] at h3
    have h4 := Nat.mul_le_mul_right (WS sd) h3
    rw [Nat.mul_right_comm, Nat.mul_assoc 9007199254740991] at h4
    exact h4
  have hfZ : WS sf ≤ 2 ^ cE := by rw [← one_S]; exact WS_le.2 (by omega)
  rcases Nat.lt_or_ge D (WS sd) with h | h
  · have h1 : 0 < sd := by
      rcases Nat.eq_zero_or_pos sd with e | e
      · rw [e, WS_zero] at h; omega
      · exact e
    have hpred : WS (sd - 1) ≤ D := by
      rcases Nat.lt_or_ge D (WS (sd - 1)) with g | g
      · have := hd.le_S hZ (Nat.mul_le_mul_right _ (Nat.le_of_lt g)); omega
      · exact g
    refine Nat.le_trans (WS_le.2 (show sm ≤ sd - 1 from ?_)) hpred
    have hp : 0 < pS sd := by
      rcases Nat.eq_zero_or_pos (pS sd) with e | e
      · exfalso
        have e1 := manS_pS sd
        have e4 := manS_lt' sd
        rw [e, Nat.zero_mul, Nat.zero_add] at e1
        have e2 : WS sd = sd := by unfold WS; rw [e, Nat.pow_zero, Nat.mul_one]; exact e1.symm
        have e5 : pS (sd - 1) = 0 := by unfold pS; omega
        have e6 := manS_pS (sd - 1)
        rw [e5, Nat.zero_mul, Nat.zero_add] at e6
        have e3 : WS (sd - 1) = sd - 1 := by unfold WS; rw [e5, Nat.pow_zero, Nat.mul_one]; exact e6.symm
        rw [e2] at h
        rw [e3] at hpred
        have hD : D = sd - 1 := by omega
        have := hd.le_S (t := sd - 1) hZ (by rw [e3, hD]; exact Nat.le_refl _)
        omega
      · exact e
    have hge := manS_ge hp
    have hlt := manS_lt' sd
    have hS := manS_pS sd
    have hWS : WS sd = manS sd * 2 ^ pS sd := rfl
    by_cases hman : manS sd = 4503599627370496
    · refine hm.le_S (Nat.mul_pos hZ hZ) ?_
      have e5 : pS (sd - 1) = pS sd - 1 := by unfold pS; unfold pS at hS hp; omega
      have e6 := manS_pS (sd - 1)
      rw [e5] at e6
      have e7 : manS (sd - 1) = 9007199254740991 := by omega
      have e8 : WS (sd - 1) = 9007199254740991 * 2 ^ (pS sd - 1) := by unfold WS; rw [e5, e7]
      have e9 : 2 ^ pS sd = 2 * 2 ^ (pS sd - 1) := by rw [← Nat.pow_succ', show (pS sd - 1).succ = pS sd by omega]
      rw [hWS, hman, e9] at hx
      rw [hWS, hman, e9, e8]
      generalize 2 ^ (pS sd - 1) = Y at *
      generalize 2 ^ cE = Z at *
      generalize WS sf = X at *
      have h5 : X * (4503599627370496 * (2 * Y)) * 9007199254740992 = 9007199254740992 * (X * Y) * 9007199254740992 := by
        rw [show 4503599627370496 * (2 * Y) = 9007199254740992 * Y by omega, Nat.mul_left_comm]
      have h6 : 9007199254740991 * (Z * (4503599627370496 * (2 * Y))) = 9007199254740991 * (Z * Y) * 9007199254740992 := by
        rw [show 4503599627370496 * (2 * Y) = 9007199254740992 * Y by omega, Nat.mul_left_comm Z]
        omega
      rw [h5, h6] at hx
      have h7 : 9007199254740992 * (X * Y) ≤ 9007199254740991 * (Z * Y) := Nat.le_of_mul_le_mul_right hx (by omega)
      have h8 : X * (4503599627370496 * (2 * Y)) = 9007199254740992 * (X * Y) := by
        rw [show 4503599627370496 * (2 * Y) = 9007199254740992 * Y by omega, Nat.mul_left_comm]
      rw [h8]
      have h9 := Nat.mul_le_mul_right Z h7
      have hac : ∀ a : Nat, a * (Z * Y) * Z = a * Y * (Z * Z) := fun a => by ac_rfl
      exact Nat.le_trans h9 (Nat.le_of_eq (hac _))
    · obtain ⟨p', hn, e0⟩ := hm
      have hXZ : WS sf * WS sd * 2 ^ cE ≤ WS sd * (2 ^ cE * 2 ^ cE) := by
        rw [Nat.mul_comm (WS sf), Nat.mul_assoc]
        exact Nat.mul_le_mul_left _ (Nat.mul_le_mul_right _ hfZ)
      have hp' : p' ≤ pS sd := nrm_le hn (nrmS sd) (Nat.mul_pos hZ hZ) hXZ
      rw [e0]
      refine Nat.le_trans (Nat.min_le_left _ _) ?_
      have h9 := fl_hi hn (Nat.mul_pos hZ hZ)
      unfold fl
      rcases Nat.lt_or_ge p' (pS sd) with g | g
      · clear hx hXZ hn e0 hWS hd
        generalize roundV (WS sf * WS sd * 2 ^ cE) (2 ^ cE * 2 ^ cE * 2 ^ p') 2 = R at *
        omega
      · obtain rfl : p' = pS sd := by omega
        have hr : roundV (WS sf * WS sd * 2 ^ cE) (2 ^ cE * 2 ^ cE * 2 ^ pS sd) 2 ≤ manS sd - 1 := by
          refine roundV_mid (mul_pow_pos (Nat.mul_pos hZ hZ) _) ?_
          have hY : 0 < 2 ^ cE * 2 ^ pS sd := Nat.mul_pos hZ (pow_pos2 _)
          have h5 : 2 ^ cE * WS sd = manS sd * (2 ^ cE * 2 ^ pS sd) := by rw [hWS]; exact Nat.mul_left_comm _ _ _
          rw [h5] at hx
          have h6 : 4503599627370497 * (2 ^ cE * 2 ^ pS sd) ≤ manS sd * (2 ^ cE * 2 ^ pS sd) := Nat.mul_le_mul_right _ (by omega)
          have h7 := ar1 hx h6 hY
          have h8 : (manS sd - 1) * (2 ^ cE * 2 ^ cE * 2 ^ pS sd) + 2 ^ cE * 2 ^ cE * 2 ^ pS sd = manS sd * (2 ^ cE * 2 ^ cE * 2 ^ pS sd) := by
            rw [← Nat.succ_mul, show (manS sd - 1).succ = manS sd by omega]
          have h10 := Nat.mul_lt_mul_of_pos_right h7 hZ
          have h11 : (2 * (WS sf * WS sd) + 2 ^ cE * 2 ^ pS sd) * 2 ^ cE = 2 * (WS sf * WS sd * 2 ^ cE) + 2 ^ cE * 2 ^ cE * 2 ^ pS sd := by
            rw [Nat.add_mul, Nat.mul_assoc 2, Nat.mul_right_comm (2 ^ cE) (2 ^ pS sd)]
          have h12 : 2 * (manS sd * (2 ^ cE * 2 ^ pS sd)) * 2 ^ cE = 2 * (manS sd * (2 ^ cE * 2 ^ cE * 2 ^ pS sd)) := by
            rw [Nat.mul_assoc 2, Nat.mul_assoc (manS sd), Nat.mul_right_comm (2 ^ cE) (2 ^ pS sd)]
          rw [h11, h12] at h10
          generalize WS sf * WS sd * 2 ^ cE = a at *
          generalize 2 ^ cE * 2 ^ cE * 2 ^ pS sd = b at *
          generalize manS sd * b = d at *
          generalize (manS sd - 1) * b = f at *
          clear hx hXZ hn e0 hWS hd h7 h5 h6 h11 h12 hS hp' h9
          omega
        clear hx hXZ hn e0 hWS hd
        generalize roundV (WS sf * WS sd * 2 ^ cE) (2 ^ cE * 2 ^ cE * 2 ^ pS sd) 2 = R at *
        omega
  · refine Nat.le_trans (WS_le.2 (hm.le_S (Nat.mul_pos hZ hZ) ?_)) h
    rw [Nat.mul_comm (WS sf), Nat.mul_assoc]
    exact Nat.mul_le_mul_left _ (Nat.mul_le_mul_right _ hfZ)
end Go.Proofs.Ytffibfnagoagcaa
