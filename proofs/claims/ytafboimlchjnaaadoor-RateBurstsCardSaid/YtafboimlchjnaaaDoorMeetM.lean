/- Quotients that are rounded: how far off they are; ticks of seconds are the ticks again. -/
import Derived.Test.YtafboimlchjnaaaDoorQuotM
import Derived.Test.YtafboimlchjnaaaDoorBetwM
namespace Go.Proofs.YtafboimlchjnaaaDoor
set_option maxRecDepth 100000

theorem nearB_ex {N M : Nat} (hN : 0 < N) (hM : 0 < M) (hn : N < 2 ^ 64) (hm : M < 2 ^ 64) : ∃ P, 0 < P ∧ P ≤ 1200 ∧ Nrm N M P ∧ nearB N M = fl N M P := by
  obtain ⟨s1, s2, s3⟩ := near_size hN hM
  have hp := nearP_bd hn hm
  have hk : nearK N M = 1 ∨ nearK N M = 2 := by unfold nearK; split <;> simp
  have hk2 : nearK N M = 1 → nearU N M / nearD N M < 18014398509481984 := by
    intro hh; unfold nearK at hh; split at hh
    · assumption
    · omega
  have hk3 : nearK N M = 2 → 18014398509481984 ≤ nearU N M / nearD N M := by
    intro hh; unfold nearK at hh; split at hh
    · omega
    · omega
  have hb : nearB N M = (nearP N M + nearK N M + 1074).toNat * 4503599627370496 + roundV (nearU N M) (nearD N M * 2 ^ nearK N M) 2 := by unfold nearB; rw [if_neg (by omega)]
  have hD : 0 < nearD N M * 2 ^ nearK N M := Nat.mul_pos s3 (pow_pos2 _)
  have hr : nearU N M * (M * 2 ^ (nearP N M + nearK N M + 1074).toNat) = N * 2 ^ cE * (nearD N M * 2 ^ nearK N M) := by
    unfold nearU nearD
    have hc := cE_eq
    generalize nearP N M = p at *
    generalize nearK N M = k at *
    rw [Nat.mul_assoc M, ← Nat.pow_add, Nat.mul_mul_mul_comm, ← Nat.pow_add, Nat.mul_mul_mul_comm N (2 ^ cE) M, ← Nat.pow_add]
    refine congrArg (fun n => N * M * 2 ^ n) ?_
    omega
  have e53 : (2 : Nat) ^ 53 = 9007199254740992 := by decide
  have e52 : (2 : Nat) ^ 52 = 4503599627370496 := by decide
  have hq : nearU N M < 2 ^ 53 * (nearD N M * 2 ^ nearK N M) ∧ 2 ^ 52 * (nearD N M * 2 ^ nearK N M) ≤ nearU N M := by
    have d1 := Nat.div_add_mod (nearU N M) (nearD N M)
    have d2 := Nat.mod_lt (nearU N M) s3
    rw [e53, e52]
    have up : ∀ c, nearU N M / nearD N M < c → nearU N M < c * nearD N M := fun c hc => by
      rwa [Nat.div_lt_iff_lt_mul s3] at hc
    have lo : ∀ c, c ≤ nearU N M / nearD N M → c * nearD N M ≤ nearU N M := fun c hc => by
      rwa [Nat.le_div_iff_mul_le s3] at hc
    rcases hk with h1 | h1
    · rw [h1]
      have a1 := up _ (hk2 h1)
      have a2 := lo _ s1
      omega
    · rw [h1]
      have a1 := up _ s2
      have a2 := lo _ (hk3 h1)
      omega
  have h0 := nrm_ratio hD hM hr hq.1 hq.2
  exact ⟨_, by omega, by omega, h0, by rw [hb, ← fl_ratio hD hM hr]⟩

theorem WS_fl {N M P : Nat} (h : Nrm N M P) (hM : 0 < M) (hP : 0 < P) : WS (fl N M P) = roundV (N * 2 ^ cE) (M * 2 ^ P) 2 * 2 ^ P := by
  have r1 := fl_hi h hM
  have r2 := fl_lo h hM hP
  unfold fl
  generalize roundV (N * 2 ^ cE) (M * 2 ^ P) 2 = R at *
  unfold WS pS manS
  rcases Nat.lt_or_ge R 9007199254740992 with h1 | h1
  · have e1 : (P * 4503599627370496 + R) / 4503599627370496 = P + 1 := by omega
    have e2 : (P * 4503599627370496 + R) % 4503599627370496 = R - 4503599627370496 := by omega
    rw [e1, e2, if_neg (by omega)]
    rw [show R - 4503599627370496 + 4503599627370496 = R by omega]
    rfl
  · have e0 : R = 9007199254740992 := by omega
    subst e0
    have e1 : (P * 4503599627370496 + 9007199254740992) / 4503599627370496 = P + 2 := by omega
    have e2 : (P * 4503599627370496 + 9007199254740992) % 4503599627370496 = 0 := by omega
    rw [e1, e2, if_neg (by omega)]
    rw [show P + 2 - 1 = P + 1 by omega, Nat.pow_succ]
    omega

theorem round_err {N D : Nat} (hD : 0 < D) : 2 * (roundV N D 2 * D) ≤ 2 * N + D ∧ 2 * N ≤ 2 * (roundV N D 2 * D) + D := by
  have hd := Nat.div_add_mod N D
  have hl := Nat.mod_lt N hD
  rw [Nat.mul_comm] at hd
  by_cases h : D < N % D + N % D ∨ N % D + N % D = D ∧ N / D % 2 = 1
  · unfold roundV
    rw [upB_true (.inr ⟨rfl, h⟩), if_pos rfl, Nat.add_mul]
    generalize N / D * D = z at *
    omega
  · unfold roundV
    rw [upB_false (by rintro (⟨h1, _⟩ | ⟨_, h2⟩); · omega
                      · exact h h2)]
    simp only [Bool.false_eq_true, if_false]
    generalize N / D * D = z at *
    omega

theorem nearB_pos {N M : Nat} (hN : 0 < N) (hM : 0 < M) (hn : N < 2 ^ 64) (hm : M < 2 ^ 64) : szB (nearB N M) = nearB N M ∧ nearB N M < 9218868437227405312 ∧ 0 < nearB N M := by
  have h := nearB_bd hn hm hN hM
  exact ⟨Nat.mod_eq_of_lt (by omega), by omega, by omega⟩

theorem meets {t hz : Nat} (ht : t < 1125899906842624) (h1 : 1 ≤ hz) (h2 : hz ≤ 1000000000) : ticksV (ratioB t hz) hz 2 = ((t : Int), 0) := by
  have ha : ticksArg hz 2 = false := decide_eq_false (by omega)
  have e2 : (hz : Int).toNat = hz := by omega
  rcases Nat.eq_zero_or_pos t with rfl | h0
  · rw [show ((0 : Nat) : Int) = 0 from rfl, ratioB_zero]
    have hn : ticksN 0 hz 2 = 0 := by
      rw [ticksN_W, show szB 0 = 0 from rfl, WS_zero, Nat.zero_mul]
      have := roundV_whole (t := 0) (M := 2 ^ cE) (pow_pos2 _) 2
      rwa [Nat.zero_mul] at this
    rw [ticksV_ok ha (by decide) (by decide) (by rw [e2]; show ticksN 0 hz 2 ≤ _; omega), e2]
    show (((ticksN 0 hz 2 : Nat) : Int), (0 : Int)) = _
    rw [hn]
    rfl
  · have hr : ratioB t hz = nearB t hz := by
      rw [ratioB_same (by rw [decide_eq_false (by omega : ¬ (t : Int) < 0), decide_eq_false (by omega : ¬ (hz : Int) < 0)]), Int.natAbs_natCast, Int.natAbs_natCast]
    rw [hr]
    obtain ⟨p1, p2, p3⟩ := nearB_pos (N := t) (M := hz) h0 (by omega) (by omega) (by omega)
    obtain ⟨P, hP, _, hn, he⟩ := nearB_ex (N := t) (M := hz) h0 (by omega) (by omega) (by omega)
    have hw := WS_fl hn (by omega) hP
    rw [← he] at hw
    have hD : 0 < hz * 2 ^ P := Nat.mul_pos (by omega) (pow_pos2 P)
    have herr := round_err (N := t * 2 ^ cE) hD
    have hlo := hn.lo.resolve_left (by omega)
    have e52 : (2 : Nat) ^ 52 = 4503599627370496 := by decide
    rw [e52] at hlo
    have hN : ticksN (nearB t hz) hz 2 = t := by
      rw [ticksN_W, p1, hw]
      refine roundV_close (pow_pos2 _) ?_ ?_
      · rw [Nat.mul_assoc, Nat.mul_comm (2 ^ P)]
        have ht2 : t * 2 ^ cE < 1125899906842624 * 2 ^ cE := Nat.mul_lt_mul_of_pos_right ht (pow_pos2 _)
        generalize roundV (t * 2 ^ cE) (hz * 2 ^ P) 2 * (hz * 2 ^ P) = z at *
        generalize hz * 2 ^ P = d at *
        generalize t * 2 ^ cE = u at *
        generalize 2 ^ cE = c at *
        omega
      · rw [Nat.mul_assoc, Nat.mul_comm (2 ^ P)]
        have ht2 : t * 2 ^ cE < 1125899906842624 * 2 ^ cE := Nat.mul_lt_mul_of_pos_right ht (pow_pos2 _)
        generalize roundV (t * 2 ^ cE) (hz * 2 ^ P) 2 * (hz * 2 ^ P) = z at *
        generalize hz * 2 ^ P = d at *
        generalize t * 2 ^ cE = u at *
        generalize 2 ^ cE = c at *
        omega
    have hneg : negB (nearB t hz) = false := decide_eq_false (by omega)
    have hk : kindB (nearB t hz) ≠ 4 ∧ kindB (nearB t hz) ≠ 3 := by
      unfold kindB kindS
      rw [p1]
      constructor
      · repeat' split
        all_goals omega
      · repeat' split
        all_goals omega
    have ho : ticksOut (nearB t hz) = false := by unfold ticksOut; rw [hneg]; exact decide_eq_false (by simp; exact hk.2)
    rw [ticksV_ok ha hk.1 ho (by rw [e2]; show ticksN _ hz 2 ≤ _; omega), e2]
    show (((ticksN (nearB t hz) hz 2 : Nat) : Int), (0 : Int)) = _
    rw [hN]
end Go.Proofs.YtafboimlchjnaaaDoor
