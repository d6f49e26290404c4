/- Mathematics of the laws RateNever and RateBursts: twice a float, the gap of twice the rate. -/
import Derived.Test.YtafboimlchjnaaaDoorRateAll
namespace Go.Proofs.YtafboimlchjnaaaDoor
open Ieee
set_option maxRecDepth 100000

/-- Twice a float's number. -/
def twB (s : Nat) : Nat := if s < 4503599627370496 then 2 * s else s + 4503599627370496
theorem WS_tw (s : Nat) : WS (twB s) = 2 * WS s := by
  unfold twB
  by_cases h : s < 4503599627370496
  · rw [if_pos h]
    have e1 : pS s = 0 := by unfold pS; omega
    have e2 : pS (2 * s) = 0 := by unfold pS; omega
    have e3 : manS s = s := by have := manS_pS s; rw [e1] at this; omega
    have e4 : manS (2 * s) = 2 * s := by have := manS_pS (2 * s); rw [e2] at this; omega
    unfold WS
    rw [e1, e2, e3, e4, Nat.pow_zero]; omega
  · rw [if_neg h]
    have e1 : pS (s + 4503599627370496) = pS s + 1 := by unfold pS; omega
    have e2 : manS (s + 4503599627370496) = manS s := by
      have h1 := manS_pS s
      have h2 := manS_pS (s + 4503599627370496)
      rw [e1] at h2; omega
    unfold WS
    rw [e1, e2, Nat.pow_succ, Nat.mul_comm 2, Nat.mul_assoc]
theorem manS_pos0 {s : Nat} (h0 : 0 < s) : 0 < manS s := by
  have := manS_pS s
  rcases Nat.eq_zero_or_pos (pS s) with h | h
  · rw [h] at this; omega
  · have := manS_ge h; omega
theorem WS_pos {s : Nat} (h0 : 0 < s) : 0 < WS s := Nat.mul_pos (manS_pos0 h0) (pow_pos2 _)
theorem le_tw (s : Nat) : s ≤ twB s := by unfold twB; split <;> omega
/-- The product with 2. -/
theorem mul_two_S {s : Nat} (hs : twB s < 9218868437227405312) (h0 : 0 < s) : Ieee.double.mul 4611686018427387904 s = some (twB s) := by
  have hl := le_tw s
  have hz : szB s = s := Nat.mod_eq_of_lt (by omega)
  have hn : negB s = false := by unfold negB; exact decide_eq_false (by omega)
  have h1 := read_fin (b := s) (by omega) (by rw [hz]; omega)
  rw [hz, hn] at h1
  have h2 : Ieee.double.read 4611686018427387904 = .number false 4503599627370496 (-51) := by decide
  have hm := manS_pos0 h0
  unfold Format.mul
  rw [h1, h2]
  simp only [Datum.product, Option.map_some, Format.write]
  have e : (false ^^ false) = false := rfl
  rw [e, nearest_S false (Nat.mul_pos (by omega) hm) hs, word_pos]
  rw [WS_tw]
  unfold upN dnN WS
  rw [expS_pS]
  have hc := cE_eq
  have e2 : (4503599627370496 : Nat) = 2 ^ 52 := by decide
  rw [e2]
  generalize manS s = m
  have e3 : 2 * (m * 2 ^ pS s) = m * 2 ^ (pS s + 1) := by rw [Nat.pow_succ, Nat.mul_comm 2, Nat.mul_assoc]
  rw [e3, Nat.mul_comm (2 ^ 52) m, Nat.mul_assoc, Nat.mul_assoc, Nat.mul_assoc, ← Nat.pow_add, ← Nat.pow_add, ← Nat.pow_add]
  refine congrArg (fun n => m * 2 ^ n) ?_
  omega

theorem gapT_ge {p hz : Nat} (h0 : 0 < p) (hp : p < 9223372036854775808) : hz * 2 ^ cE ≤ gapT p hz * WS p := by
  have hz : szB p = p := Nat.mod_eq_of_lt hp
  unfold gapT
  rw [hz]
  exact roundV_up_ge _ _ (WS_pos h0)
theorem gapT_le {p hz c : Nat} (h0 : 0 < p) (hp : p < 9223372036854775808) : gapT p hz ≤ c ↔ hz * 2 ^ cE ≤ c * WS p := by
  have hz : szB p = p := Nat.mod_eq_of_lt hp
  unfold gapT
  rw [hz]
  exact up_le (WS_pos h0)
/-- What hz over T is by the nearest float. -/
theorem never_le {p hz : Nat} (h0 : 0 < p) (hp : p < 9218868437227405312) (h1 : 1 ≤ hz) (h2 : hz ≤ 1000000000) (hT : gapT p hz ≤ 4611686018427387903) (hT1 : 1 ≤ gapT p hz) : nearB hz (gapT p hz) ≤ p := by
  obtain ⟨P, _, _, g1, g2⟩ := nearB_ex (N := hz) (M := gapT p hz) (by omega) (by omega) (by omega) (by omega)
  rw [g2]
  refine fl_le_S g1 (by omega) ?_
  rw [Nat.mul_comm (WS p)]
  exact gapT_ge h0 (by omega)
theorem never_ge {p hz : Nat} (h0 : 0 < p) (hp : p < 9218868437227405312) (h1 : 1 ≤ hz) (h2 : hz ≤ 1000000000) (hT : gapT p hz ≤ 4611686018427387903) (hT1 : 1 < gapT p hz) : p ≤ nearB hz (gapT p hz - 1) := by
  obtain ⟨P, _, _, g1, g2⟩ := nearB_ex (N := hz) (M := gapT p hz - 1) (by omega) (by omega) (by omega) (by omega)
  rw [g2]
  refine S_le_fl g1 (by omega) ?_
  have h : ¬ hz * 2 ^ cE ≤ (gapT p hz - 1) * WS p := fun h => by have := (gapT_le (hz := hz) (c := gapT p hz - 1) h0 (by omega)).2 h; omega
  rw [Nat.mul_comm (WS p)]
  omega
theorem never_half {p hz : Nat} (h0 : 0 < p) (hp : twB p < 9218868437227405312) : gapT (twB p) hz ≤ gapT p hz ∧ gapT p hz / 2 ≤ gapT (twB p) hz := by
  have hl := le_tw p
  have ht : 0 < twB p := by omega
  constructor
  · refine (gapT_le ht (by omega)).2 ?_
    have := gapT_ge (hz := hz) h0 (by omega)
    rw [WS_tw, Nat.mul_left_comm]
    omega
  · have g := gapT_ge (hz := hz) ht (by omega)
    rw [WS_tw, Nat.mul_left_comm, ← Nat.mul_assoc] at g
    have := (gapT_le (hz := hz) (c := 2 * gapT (twB p) hz) h0 (by omega)).2 g
    omega
theorem told_good {p b : Nat} {hz : Int} (h1 : 1 ≤ hz) (h2 : hz ≤ 1000000000) (h3 : szB p < 9218868437227405312) (h4 : 0 < szB p) (h5 : negB p = false) (h6 : szB b < 9218868437227405312) (h7 : szB b = 0 ∨ negB b = false) : toldV p b hz = 0 := by
  have q1 : hzB hz = true := decide_eq_true ⟨h1, h2⟩
  have q2 : nanB p = false := decide_eq_false (by omega)
  have q3 : nanB b = false := decide_eq_false (by omega)
  have q4 : le0B p = false := by unfold le0B; rw [h5, decide_eq_false (by omega)]; rfl
  have q5 : infB p = false := decide_eq_false (fun e => by rw [e] at h3; exact absurd h3 (by decide))
  have q6 : lt0B b = false := by
    unfold lt0B
    rcases h7 with h | h
    · rw [h, decide_eq_true rfl]; rfl
    · rw [h, Bool.and_false]
  have q7 : infB b = false := decide_eq_false (fun e => by rw [e] at h6; exact absurd h6 (by decide))
  unfold toldV
  rw [q1, q2, q3, q4, q5, q6, q7]
  simp
end Go.Proofs.YtafboimlchjnaaaDoor
