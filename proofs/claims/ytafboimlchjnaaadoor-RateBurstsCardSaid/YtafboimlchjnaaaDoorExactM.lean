/- Whole numbers as floats; a float out of its odd part and its power. -/
import Derived.Test.YtafboimlchjnaaaDoorTurnM
import Derived.Test.YtafboimlchjnaaaDoorLdexp
namespace Go.Proofs.YtafboimlchjnaaaDoor
set_option maxRecDepth 100000

theorem pow_two_le {c P : Nat} (h : c < P) : 2 ^ c * 2 ≤ 2 ^ P := by rw [← Nat.pow_succ]; exact Nat.pow_le_pow_right (by omega) h

/-- A whole number of 53 bits has a float of its own. -/
theorem WS_whole {N : Nat} (h0 : 0 < N) (h : N < 9007199254740992) : WS (nearB N 1) = N * 2 ^ cE := by
  obtain ⟨P, hP, _, hn, he⟩ := nearB_ex (N := N) (M := 1) h0 (by omega) (by omega) (by omega)
  have hw := WS_fl hn (by omega) hP
  rw [← he, Nat.one_mul] at hw
  have hlo := hn.lo.resolve_left (by omega)
  rw [Nat.one_mul, show (2 : Nat) ^ 52 = 4503599627370496 by decide] at hlo
  have hle : P ≤ cE := by
    rcases Nat.lt_or_ge cE P with h1 | h1
    · exfalso
      have h2 := pow_two_le h1
      have h3 : N * 2 ^ cE < 9007199254740992 * 2 ^ cE := Nat.mul_lt_mul_of_pos_right h (pow_pos2 _)
      generalize 2 ^ cE = c at *
      generalize 2 ^ P = d at *
      generalize N * c = u at *
      omega
    · exact h1
  have e : N * 2 ^ cE = N * 2 ^ (cE - P) * 2 ^ P := by
    rw [Nat.mul_assoc, ← Nat.pow_add, show cE - P + P = cE by omega]
  rw [hw, e, roundV_whole (pow_pos2 P)]
theorem int_float {N : Nat} (h0 : 0 < N) (h : N < 9007199254740992) : floatOfInt FloatKind.f64 (N : Int) = nearB N 1 := by
  obtain ⟨p1, p2, p3⟩ := nearB_pos (N := N) (M := 1) h0 (by omega) (by omega) (by omega)
  show Ieee.double.nearest (decide ((N : Int) < 0)) (N : Int).natAbs 0 = _
  rw [decide_eq_false (by omega), Int.natAbs_natCast, nearest_S false h0 p2 (by
    rw [WS_whole h0 h]
    unfold upN dnN
    show N * 2 ^ 0 * 2 ^ cE = N * 2 ^ cE * 2 ^ 0
    rw [Nat.pow_zero, Nat.mul_one, Nat.mul_one]), word_pos]
theorem int_float0 : floatOfInt FloatKind.f64 0 = 0 := by decide +kernel

theorem ratio_whole {N : Nat} : ratioB (N : Int) 1 = nearB N 1 := by
  rw [ratioB_same (by rw [decide_eq_false (by omega : ¬ (N : Int) < 0)]; rfl), Int.natAbs_natCast]
  rfl
theorem ticks_whole {N : Nat} (h : N < 9007199254740992) : ticksV (nearB N 1) 1 2 = ((N : Int), 0) := by
  have ha : ticksArg 1 2 = false := by decide
  have hN : ticksN (nearB N 1) 1 2 = N := by
    rw [ticksN_W, Nat.mul_one]
    rcases Nat.eq_zero_or_pos N with rfl | h0
    · rw [nearB_zero, show szB 0 = 0 from rfl, WS_zero]
      have := roundV_whole (t := 0) (M := 2 ^ cE) (pow_pos2 _) 2
      rwa [Nat.zero_mul] at this
    · rw [(nearB_pos (N := N) (M := 1) h0 (by omega) (by omega) (by omega)).1, WS_whole h0 h]
      exact roundV_whole (pow_pos2 _) 2
  have hb := nearB_le (N := N) (M := 1) (by omega) (by omega) (by omega)
  have hs : szB (nearB N 1) = nearB N 1 := Nat.mod_eq_of_lt (by omega)
  have hneg : negB (nearB N 1) = false := decide_eq_false (by omega)
  have hk : kindB (nearB N 1) ≠ 4 ∧ kindB (nearB N 1) ≠ 3 := by
    unfold kindB kindS
    rw [hs]
    constructor
    · repeat' split
      all_goals omega
    · repeat' split
      all_goals omega
  have ho : ticksOut (nearB N 1) = false := by unfold ticksOut; rw [hneg]; exact decide_eq_false (by simp; exact hk.2)
  rw [ticksV_ok ha hk.1 ho (by show ticksN _ 1 2 ≤ _; omega)]
  show (((ticksN (nearB N 1) 1 2 : Nat) : Int), (0 : Int)) = _
  rw [hN]

/-- A float's number is its odd part times a power. -/
theorem WS_odd {s : Nat} (h0 : 0 < manS s) : WS s = oddM (manS s) * 2 ^ (tz 64 (manS s) + pS s) := by
  have h1 := tz_spec 64 (manS s) h0 (by have := manS_lt s; omega)
  unfold WS
  rw [Nat.pow_add, ← Nat.mul_assoc]
  congr 1
  exact h1.2.symm

theorem norm_unique {a b i j : Nat} (a1 : 4503599627370496 ≤ a) (a2 : a < 9007199254740992) (b1 : 4503599627370496 ≤ b) (b2 : b < 9007199254740992) (h : a * 2 ^ i = b * 2 ^ j) : i = j ∧ a = b := by
  have key : ∀ {a b i j : Nat}, a < 9007199254740992 → 4503599627370496 ≤ b → a * 2 ^ i = b * 2 ^ j → j ≤ i := fun {a b i j} a2 b1 h => by
    rcases Nat.lt_or_ge i j with h1 | h1
    · exfalso
      have e : 2 ^ (i + 1) ≤ 2 ^ j := Nat.pow_le_pow_right (by omega) h1
      rw [Nat.pow_succ] at e
      have h2 : a * 2 ^ i < 9007199254740992 * 2 ^ i := Nat.mul_lt_mul_of_pos_right a2 (pow_pos2 i)
      have h3 : 4503599627370496 * 2 ^ j ≤ b * 2 ^ j := Nat.mul_le_mul_right _ b1
      generalize 2 ^ i = c at *
      generalize 2 ^ j = d at *
      generalize a * c = u at *
      omega
    · exact h1
  have e : i = j := Nat.le_antisymm (key b2 a1 h.symm) (key a2 b1 h)
  subst e
  exact ⟨rfl, Nat.eq_of_mul_eq_mul_right (pow_pos2 i) h⟩

/-- The float of a whole number from 1 on. -/
theorem whole_parts {m : Nat} (h0 : 0 < m) (h : m < 9007199254740992) : ∃ x f, nearB m 1 / 4503599627370496 = x ∧ nearB m 1 % 4503599627370496 = f ∧ 1023 ≤ x ∧ x ≤ 2046 ∧ (f + 4503599627370496) * 2 ^ (x - 1) = m * 2 ^ cE := by
  have hw := WS_whole h0 h
  have hp := nearB_pos (N := m) (M := 1) h0 (by omega) (by omega) (by omega)
  have h1 : 4607182418800017408 ≤ nearB m 1 := by
    rw [← WS_le, WS_one, hw]
    exact Nat.le_mul_of_pos_left _ h0
  generalize nearB m 1 = S at *
  refine ⟨_, _, rfl, rfl, by omega, by omega, ?_⟩
  rw [← hw]
  unfold WS manS pS
  rw [if_neg (by omega)]

/-- The odd part's float, moved by the power: a normal float again. -/
theorem exact_norm {s : Nat} (hs : s < 9218868437227405312) (h0 : 4503599627370496 ≤ s) :
    ∃ x f y : Nat, nearB (oddM (manS s)) 1 / 4503599627370496 = x ∧ nearB (oddM (manS s)) 1 % 4503599627370496 = f ∧ 1 ≤ x ∧ x ≤ 2046 ∧
      (x : Int) + (expS s + tz 64 (manS s)) = y ∧ 1 ≤ y ∧ y ≤ 2046 ∧ y * 4503599627370496 + f = s := by
  have hm : manS s = s % 4503599627370496 + 4503599627370496 := by unfold manS; rw [if_neg (by omega)]
  have hmp : 0 < manS s := by omega
  have hml := manS_lt s
  have ho := tz_spec 64 (manS s) hmp (by omega)
  have hop : 0 < oddM (manS s) := by
    have := ho.1
    show 0 < manS s / 2 ^ tz 64 (manS s)
    generalize manS s / 2 ^ tz 64 (manS s) = z at this
    omega
  have hol : oddM (manS s) < 9007199254740992 := Nat.lt_of_le_of_lt (Nat.div_le_self _ _) hml
  obtain ⟨x, f, e1, e2, x1, x2, hw⟩ := whole_parts hop hol
  have hso := WS_odd hmp
  have hc := cE_eq
  have hf : f < 4503599627370496 := by rw [← e2]; exact Nat.mod_lt _ (by omega)
  have hp : pS s = s / 4503599627370496 - 1 := rfl
  have heq : (f + 4503599627370496) * 2 ^ (x - 1 + (tz 64 (manS s) + pS s)) = manS s * 2 ^ (pS s + cE) := by
    rw [Nat.pow_add 2 (x - 1), ← Nat.mul_assoc, hw, Nat.mul_right_comm, ← hso]
    unfold WS
    rw [Nat.mul_assoc, ← Nat.pow_add]
  obtain ⟨g1, g2⟩ := norm_unique (by omega) (by omega) (by omega) hml heq
  have hx := expS_pS s
  refine ⟨x, f, s / 4503599627370496, e1, e2, by omega, x2, by omega, by omega, by omega, by omega⟩

/-- The odd part's float, moved by the power: a subnormal float. -/
theorem exact_sub {s : Nat} (hs : s < 4503599627370496) (h0 : 0 < s) :
    ∃ x f y r : Nat, nearB (oddM (manS s)) 1 / 4503599627370496 = x ∧ nearB (oddM (manS s)) 1 % 4503599627370496 = f ∧ 1 ≤ x ∧ x ≤ 2046 ∧
      (x : Int) + (expS s + tz 64 (manS s)) + 53 = y ∧ 1 ≤ y ∧ y ≤ 53 ∧ y * 4503599627370496 + f = r ∧ FloatKind.f64.format.mul 4368491638549381120 r = some s := by
  have hm : manS s = s := by unfold manS; rw [if_pos (by omega)]; omega
  have ho := tz_spec 64 s h0 (by omega)
  have hop : 0 < oddM s := by
    have := ho.1
    show 0 < s / 2 ^ tz 64 s
    generalize s / 2 ^ tz 64 s = z at this
    omega
  have hos : oddM s * 2 ^ tz 64 s = s := ho.2
  have hol : oddM s < 9007199254740992 := Nat.lt_of_le_of_lt (Nat.div_le_self _ _) (by omega)
  rw [hm]
  obtain ⟨x, f, e1, e2, x1, x2, hw⟩ := whole_parts hop hol
  have hf : f < 4503599627370496 := by rw [← e2]; exact Nat.mod_lt _ (by omega)
  have hps : pS s = 0 := by unfold pS; omega
  have hx := expS_pS s
  have hc := cE_eq
  generalize tz 64 s = k at *
  generalize oddM s = m at *
  have hk : x + k ≤ 1074 := by
    rcases Nat.lt_or_ge 1074 (x + k) with h | h
    · exfalso
      have h1 : 2 ^ cE ≤ 2 ^ (x - 1 + k) := Nat.pow_le_pow_right (by omega) (by omega)
      have h2 : (f + 4503599627370496) * 2 ^ (x - 1 + k) = s * 2 ^ cE := by
        rw [Nat.pow_add, ← Nat.mul_assoc, hw, Nat.mul_right_comm, hos]
      have h3 : s * 2 ^ cE < 4503599627370496 * 2 ^ cE := Nat.mul_lt_mul_of_pos_right hs (pow_pos2 _)
      have h4 : 4503599627370496 * 2 ^ (x - 1 + k) ≤ (f + 4503599627370496) * 2 ^ (x - 1 + k) := Nat.mul_le_mul_right _ (by omega)
      generalize 2 ^ cE = c at *
      generalize 2 ^ (x - 1 + k) = d at *
      generalize s * c = u at *
      omega
    · exact h
  obtain ⟨y, hy⟩ : ∃ y : Nat, y + 1021 = x + k := ⟨x + k - 1021, by omega⟩
  refine ⟨x, f, y, _, e1, e2, by omega, x2, by omega, by omega, by omega, rfl, ?_⟩
  obtain ⟨r, hr⟩ : ∃ r, y * 4503599627370496 + f = r := ⟨_, rfl⟩
  rw [hr]
  have hrl : r < 9218868437227405312 := by omega
  have hz : szB r = r := Nat.mod_eq_of_lt (by omega)
  have hn : negB r = false := decide_eq_false (by omega)
  have hmr : manS r = f + 4503599627370496 := by unfold manS; rw [if_neg (by omega)]; omega
  have hpr : pS r = y - 1 := by unfold pS; omega
  have g1 := read_fin (b := r) (by omega) (by rw [hz]; exact hrl)
  rw [hz, hn, hmr, expS_pS, hpr] at g1
  have g2 : Ieee.double.read 4368491638549381120 = .number false 4503599627370496 (-105) := by decide
  show Ieee.double.mul 4368491638549381120 r = some s
  unfold Ieee.Format.mul
  rw [g1, g2]
  simp only [Ieee.Datum.product, Option.map_some, Ieee.Format.write]
  have e : (false ^^ false) = false := rfl
  rw [e, nearest_S false (Nat.mul_pos (by omega) (by omega)) (s := s) (by omega), word_pos]
  have hpl : (-105 + (((y - 1 : Nat) : Int) - 1074)) = -((1180 - y : Nat) : Int) := by omega
  rw [hpl]
  unfold upN dnN WS
  rw [hm, hps]
  have t1 : (-((1180 - y : Nat) : Int)).toNat = 0 := by omega
  have t2 : (- -((1180 - y : Nat) : Int)).toNat = 1180 - y := by omega
  rw [t1, t2]
  refine Nat.eq_of_mul_eq_mul_right (pow_pos2 (x - 1)) ?_
  have e52 : (4503599627370496 : Nat) = 2 ^ 52 := by decide
  rw [Nat.pow_zero, Nat.mul_one, Nat.mul_one, Nat.mul_right_comm, Nat.mul_assoc 4503599627370496, hw, ← hos, e52]
  rw [Nat.mul_left_comm, ← Nat.pow_add, Nat.mul_assoc, Nat.mul_assoc, Nat.mul_assoc, ← Nat.pow_add, ← Nat.pow_add, ← Nat.pow_add]
  refine congrArg (fun n => m * 2 ^ n) ?_
  omega
end Go.Proofs.YtafboimlchjnaaaDoor
