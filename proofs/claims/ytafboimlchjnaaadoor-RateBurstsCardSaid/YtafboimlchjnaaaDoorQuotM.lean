/- The float nearest to a quotient: the document's way and the program's. -/
import Derived.Test.YtafboimlchjnaaaDoorRatio
import Derived.Test.YtafboimlchjnaaaDoorIee
namespace Go.Proofs.YtafboimlchjnaaaDoor
set_option maxRecDepth 100000

/-- Nrm is a matter of the ratio. -/
theorem nrm_ratio {N M P U D : Nat} (hD : 0 < D) (hM : 0 < M) (hr : U * (M * 2 ^ P) = N * 2 ^ cE * D) (h1 : U < 2 ^ 53 * D) (h2 : 2 ^ 52 * D ≤ U) : Nrm N M P := by
  have hMP : 0 < M * 2 ^ P := Nat.mul_pos hM (pow_pos2 P)
  refine ⟨?_, .inr ?_⟩
  · refine Nat.lt_of_mul_lt_mul_right (a := D) ?_
    rw [← hr, Nat.mul_right_comm]
    exact Nat.mul_lt_mul_of_pos_right h1 hMP
  · refine Nat.le_of_mul_le_mul_right (c := D) ?_ hD
    rw [← hr, Nat.mul_right_comm]
    exact Nat.mul_le_mul_right _ h2
theorem fl_ratio {N M P U D : Nat} (hD : 0 < D) (hM : 0 < M) (hr : U * (M * 2 ^ P) = N * 2 ^ cE * D) : fl N M P = P * 4503599627370496 + roundV U D 2 := by
  unfold fl
  rw [roundV_ratio (Nat.mul_pos hM (pow_pos2 P)) hD hr.symm 2]

theorem nearB_fl {N M P : Nat} (hN : 0 < N) (hM : 0 < M) (hn : N < 2 ^ 64) (hm : M < 2 ^ 64) (h : Nrm N M P) : nearB N M = fl N M P := by
  obtain ⟨s1, s2, s3⟩ := near_size hN hM
  have hp := nearP_bd hn hm
  have hk : nearK N M = 1 ∨ nearK N M = 2 := by unfold nearK; split <;> simp
  have hk2 : nearK N M = 1 → nearU N M / nearD N M < 18014398509481984 := by
    intro hh; unfold nearK at hh; split at hh
    · assumption
    · omega
  have hk3 : nearK N M = 2 → 18014398509481984 ≤ nearU N M / nearD N M := by
    intro hh; unfold nearK at hh; split at hh
    · omega
    · omega
  have hb : nearB N M = (nearP N M + nearK N M + 1074).toNat * 4503599627370496 + roundV (nearU N M) (nearD N M * 2 ^ nearK N M) 2 := by unfold nearB; rw [if_neg (by omega)]
  have hD : 0 < nearD N M * 2 ^ nearK N M := Nat.mul_pos s3 (pow_pos2 _)
  have hr : nearU N M * (M * 2 ^ (nearP N M + nearK N M + 1074).toNat) = N * 2 ^ cE * (nearD N M * 2 ^ nearK N M) := by
    unfold nearU nearD
    have hc := cE_eq
    generalize nearP N M = p at *
    generalize nearK N M = k at *
    rw [Nat.mul_assoc M, ← Nat.pow_add, Nat.mul_mul_mul_comm, ← Nat.pow_add, Nat.mul_mul_mul_comm N (2 ^ cE) M, ← Nat.pow_add]
    refine congrArg (fun n => N * M * 2 ^ n) ?_
    omega
  have e53 : (2 : Nat) ^ 53 = 9007199254740992 := by decide
  have e52 : (2 : Nat) ^ 52 = 4503599627370496 := by decide
  have hq : nearU N M < 2 ^ 53 * (nearD N M * 2 ^ nearK N M) ∧ 2 ^ 52 * (nearD N M * 2 ^ nearK N M) ≤ nearU N M := by
    have d1 := Nat.div_add_mod (nearU N M) (nearD N M)
    have d2 := Nat.mod_lt (nearU N M) s3
    rw [e53, e52]
    have up : ∀ c, nearU N M / nearD N M < c → nearU N M < c * nearD N M := fun c hc => by
      rwa [Nat.div_lt_iff_lt_mul s3] at hc
    have lo : ∀ c, c ≤ nearU N M / nearD N M → c * nearD N M ≤ nearU N M := fun c hc => by
      rwa [Nat.le_div_iff_mul_le s3] at hc
    rcases hk with h1 | h1
    · rw [h1]
      have a1 := up _ (hk2 h1)
      have a2 := lo _ s1
      omega
    · rw [h1]
      have a1 := up _ s2
      have a2 := lo _ (hk3 h1)
      omega
  have h0 := nrm_ratio hD hM hr hq.1 hq.2
  rw [hb, ← fl_ratio hD hM hr]
  exact fl_same h0 h hM hM rfl

/-- The last bit stands for all that is lost. -/
def stick (q r : Nat) : Nat := if 0 < r ∧ q % 2 = 0 then q + 1 else q
theorem sticky_round {X B l : Nat} (hB : 0 < B) (hl : 2 ≤ l) : roundV (stick (X / B) (X % B)) (2 ^ l) 2 = roundV X (B * 2 ^ l) 2 := by
  have hd := Nat.div_add_mod X B
  have hm := Nat.mod_lt X hB
  obtain ⟨h, rfl⟩ : ∃ h, l = h + 2 := ⟨l - 2, by omega⟩
  have e4 : 2 ^ (h + 2) = 2 ^ h * 4 := by rw [Nat.pow_add]
  have hp := pow_pos2 h
  rw [e4]
  have hq1 : X / (B * (2 ^ h * 4)) = X / B / (2 ^ h * 4) := (Nat.div_div_eq_div_mul _ _ _).symm
  have hr1 : X % (B * (2 ^ h * 4)) = X % B + B * (X / B % (2 ^ h * 4)) := Nat.mod_mul
  generalize X / B = q at *
  generalize X % B = r at *
  generalize 2 ^ h = g at *
  have dq := Nat.div_add_mod q (g * 4)
  have lq := Nat.mod_lt q (show 0 < g * 4 by omega)
  have hpar : q % 2 = q % (g * 4) % 2 := (Nat.mod_mod_of_dvd q ⟨g * 2, by omega⟩).symm
  have hs : stick q r / (g * 4) = q / (g * 4) ∧ stick q r % (g * 4) = stick (q % (g * 4)) r := by
    unfold stick
    by_cases h : 0 < r ∧ q % 2 = 0
    · rw [if_pos h, if_pos (by omega)]
      have h1 : q % (g * 4) + 1 < g * 4 := by omega
      have h2 : q + 1 = (q % (g * 4) + 1) + g * 4 * (q / (g * 4)) := by omega
      rw [h2, Nat.add_mul_div_left _ _ (by omega), Nat.add_mul_mod_self_left, Nat.div_eq_of_lt h1, Nat.mod_eq_of_lt h1]
      omega
    · rw [if_neg h, if_neg (by omega)]
      exact ⟨rfl, rfl⟩
  rw [roundV_two hs.1 hs.2, roundV_two hq1 hr1]
  clear hs hq1 hr1 dq hd
  generalize q / (g * 4) = Q at *
  generalize q % (g * 4) = t at *
  have hc : (g * 4 < stick t r + stick t r ∨ stick t r + stick t r = g * 4 ∧ Q % 2 = 1) ↔ (B * (g * 4) < r + B * t + (r + B * t) ∨ r + B * t + (r + B * t) = B * (g * 4) ∧ Q % 2 = 1) := by
    have eG : B * (g * 4) = B * g * 4 := (Nat.mul_assoc _ _ _).symm
    rw [eG]
    unfold stick
    rcases Nat.lt_trichotomy t (2 * g) with h | h | h
    · have h1 : B * (t + 1) ≤ B * (2 * g) := Nat.mul_le_mul_left _ h
      have h2 : B * (2 * g) = B * g * 2 := by rw [Nat.mul_comm 2 g, Nat.mul_assoc]
      rw [h2, Nat.mul_add] at h1
      generalize B * g = G at *
      generalize B * t = T at *
      split <;> omega
    · subst h
      have h1 : B * (2 * g) = B * g * 2 := by rw [Nat.mul_comm 2 g, Nat.mul_assoc]
      rw [h1]
      generalize B * g = G at *
      split <;> omega
    · have h1 : B * (2 * g + 1) ≤ B * t := Nat.mul_le_mul_left _ h
      have h2 : B * (2 * g) = B * g * 2 := by rw [Nat.mul_comm 2 g, Nat.mul_assoc]
      rw [Nat.mul_add, h2] at h1
      generalize B * g = G at *
      generalize B * t = T at *
      split <;> omega
  simp only [hc]

/-- The place of a number of 63 or 64 bits. -/
theorem near_place {s p : Nat} (h1 : 4611686018427387904 ≤ s) (h2 : s < 18446744073709551616) (hn : Nrm s 1 p) :
    ∃ l, p = cE + l ∧ (l = 10 ∨ l = 11) ∧ 4503599627370496 * 2 ^ l ≤ s ∧ s < 9007199254740992 * 2 ^ l := by
  have e53 : (2 : Nat) ^ 53 = 9007199254740992 := by decide
  have e52 : (2 : Nat) ^ 52 = 4503599627370496 := by decide
  have g1 := hn.hi
  have g2 := hn.lo
  rw [e53, Nat.one_mul] at g1
  rw [e52, Nat.one_mul] at g2
  clear e53 e52 hn
  have up : cE + 10 ≤ p := by
    rcases Nat.lt_or_ge p (cE + 10) with h | h
    · exfalso
      have h3 : 2 ^ p ≤ 2 ^ (cE + 9) := Nat.pow_le_pow_right (by omega) (by omega)
      rw [Nat.pow_add, show (2 : Nat) ^ 9 = 512 by decide] at h3
      have h4 : 4611686018427387904 * 2 ^ cE ≤ s * 2 ^ cE := Nat.mul_le_mul_right _ h1
      clear g2 h1 h2
      generalize 2 ^ cE = c at *
      generalize 2 ^ p = d at *
      generalize s * c = e at *
      omega
    · exact h
  have hc := cE_eq
  obtain ⟨l, rfl⟩ : ∃ l, p = cE + l := ⟨p - cE, by omega⟩
  have g3 := g2.resolve_left (by omega)
  rw [Nat.pow_add, Nat.mul_left_comm, Nat.mul_comm s] at g1
  rw [Nat.pow_add, Nat.mul_left_comm, Nat.mul_comm s] at g3
  have g4 := Nat.lt_of_mul_lt_mul_left g1
  have g5 := Nat.le_of_mul_le_mul_left g3 (pow_pos2 cE)
  have dn : l ≤ 11 := by
    rcases Nat.lt_or_ge 11 l with h | h
    · have h3 : 2 ^ 12 ≤ 2 ^ l := Nat.pow_le_pow_right (by omega) h
      rw [show (2 : Nat) ^ 12 = 4096 by decide] at h3
      omega
    · exact h
  exact ⟨l, rfl, by omega, g5, g4⟩

theorem stick_bounds {A B q r l : Nat} (hl : l = 10 ∨ l = 11) (dq : B * q + r = A) (lr : r < B) (g5 : 4503599627370496 * 2 ^ l ≤ stick q r) (g4 : stick q r < 9007199254740992 * 2 ^ l) :
    A < 9007199254740992 * (B * 2 ^ l) ∧ 4503599627370496 * (B * 2 ^ l) ≤ A := by
  have hpar : (stick q r % 2 = 1 ∧ stick q r = q + 1) ∨ stick q r = q := by unfold stick; split <;> omega
  generalize stick q r = s at *
  have main : ∀ c, s < c → c % 2 = 0 → A < c * B := fun c hc hp => by
    have a1 : B * (q + 1) ≤ B * c := Nat.mul_le_mul_left _ (by omega)
    rw [Nat.mul_add, Nat.mul_comm B c] at a1
    omega
  have main2 : ∀ c, c ≤ s → c % 2 = 0 → c * B ≤ A := fun c hc hp => by
    have a1 : B * c ≤ B * q := Nat.mul_le_mul_left _ (by omega)
    rw [Nat.mul_comm B c] at a1
    omega
  have e : ∀ c, c * (B * 2 ^ l) = c * 2 ^ l * B := fun c => by rw [Nat.mul_comm B, Nat.mul_assoc]
  rw [e, e]
  rcases hl with rfl | rfl
  · exact ⟨main _ g4 (by decide), main2 _ g5 (by decide)⟩
  · exact ⟨main _ g4 (by decide), main2 _ g5 (by decide)⟩

/-- The nearest float to a quotient of numbers that were moved up to their full 64 bits. -/
theorem near_shift {a b u d q r A B : Nat} (ha : 0 < a) (hb : 0 < b) (ha' : a < 2 ^ 64) (hb' : b < 2 ^ 64) (hA : a * 2 ^ u = A) (hB : b * 2 ^ d = B) (hA1 : 9223372036854775808 ≤ A) (hA2 : A < 18446744073709551616) (hB1 : 9223372036854775808 ≤ B) (hB2 : B < 18446744073709551616) (hu : u ≤ 63)
    (hq : A * 9223372036854775808 / B = q) (hr : A * 9223372036854775808 % B = r) :
    ∃ fb, Ieee.double.nearest false (stick q r) 0 = fb ∧ 4886405595696988160 ≤ fb ∧ fb ≤ 4895412794951729152 ∧ (fb : Int) + ((d : Int) - u - 63) * 4503599627370496 = nearB a b := by
  have hBp : 0 < B := by omega
  have dq := Nat.div_add_mod (A * 9223372036854775808) B
  have lr := Nat.mod_lt (A * 9223372036854775808) hBp
  have sr : ∀ l, 2 ≤ l → _ := fun l hl => sticky_round (X := A * 9223372036854775808) (l := l) hBp hl
  rw [hq, hr] at dq sr
  rw [hr] at lr
  have q1 : 4611686018427387904 ≤ q := by
    rw [← hq, Nat.le_div_iff_mul_le hBp]
    omega
  have q2 : q < 18446744073709551616 := by
    rw [← hq, Nat.div_lt_iff_lt_mul hBp]
    omega
  have hsl : stick q r < 18446744073709551616 ∧ q ≤ stick q r := by unfold stick; split <;> omega
  clear hq hr
  obtain ⟨p, hn, hw⟩ := nearest_fl false (stick q r) 0 (by omega)
  have eU : upN (stick q r) 0 = stick q r := by unfold upN; exact Nat.mul_one _
  have eD : dnN 0 = 1 := rfl
  rw [eU, eD] at hn hw
  obtain ⟨l, hl, hl2, g5, g4⟩ := near_place (by omega) hsl.1 hn
  have hbounds := stick_bounds hl2 dq lr g5 g4
  have sr2 := sr l (by omega)
  clear g5 g4 sr dq lr hn hsl q1 q2
  subst hl
  have hR : fl (stick q r) 1 (cE + l) = (cE + l) * 4503599627370496 + roundV (A * 9223372036854775808) (B * 2 ^ l) 2 := by
    unfold fl
    rw [roundV_ratio (N' := stick q r) (M' := 2 ^ l) (by rw [Nat.one_mul]; exact pow_pos2 _) (pow_pos2 l) (by rw [Nat.one_mul, Nat.pow_add, Nat.mul_assoc]) 2, sr2]
  have hc := cE_eq
  obtain ⟨P, hP⟩ : ∃ P, P + u + 63 = cE + l + d := ⟨cE + l + d - u - 63, by omega⟩
  have hD : 0 < B * 2 ^ l := Nat.mul_pos hBp (pow_pos2 l)
  have hrat : A * 9223372036854775808 * (b * 2 ^ P) = a * 2 ^ cE * (B * 2 ^ l) := by
    rw [← hA, ← hB, show (9223372036854775808 : Nat) = 2 ^ 63 by decide, Nat.mul_assoc a, ← Nat.pow_add, Nat.mul_mul_mul_comm, ← Nat.pow_add, Nat.mul_assoc b, ← Nat.pow_add, Nat.mul_mul_mul_comm a (2 ^ cE) b, ← Nat.pow_add]
    refine congrArg (fun n => a * b * 2 ^ n) ?_
    omega
  have e53 : (2 : Nat) ^ 53 = 9007199254740992 := by decide
  have e52 : (2 : Nat) ^ 52 = 4503599627370496 := by decide
  have hN := nrm_ratio hD hb hrat (by rw [e53]; exact hbounds.1) (by rw [e52]; exact hbounds.2)
  have hnb := nearB_fl ha hb ha' hb' hN
  rw [fl_ratio hD hb hrat] at hnb
  have r1 : roundV (A * 9223372036854775808) (B * 2 ^ l) 2 ≤ 9007199254740992 := roundV_hi hD (Nat.le_of_lt hbounds.1) 2
  have r2 : 4503599627370496 ≤ roundV (A * 9223372036854775808) (B * 2 ^ l) 2 := roundV_lo hD hbounds.2 2
  rw [hR] at hw
  clear hR sr2 hbounds hrat hN hD hA1 hA2 hB1 hB2 hA hB
  generalize roundV (A * 9223372036854775808) (B * 2 ^ l) 2 = R at *
  rw [hc] at hw hP
  refine ⟨(1074 + l) * 4503599627370496 + R, ?_, ?_, ?_, ?_⟩
  · rw [hw, word_pos]
    rcases hl2 with rfl | rfl <;> omega
  · rcases hl2 with rfl | rfl <;> omega
  · rcases hl2 with rfl | rfl <;> omega
  · rw [hnb]
    rcases hl2 with rfl | rfl <;> omega
end Go.Proofs.YtafboimlchjnaaaDoor
