/- Floats: sums, differences and products, rounded to the nearest, told by their exact values. -/
import Derived.Test.YtffibfnagoagcaaWhM
namespace Go.Proofs.Ytffibfnagoagcaa
open Ieee
set_option maxRecDepth 100000
set_option linter.unusedVariables false

/-- The rung of the float nearest to N over M. -/
def Rd (N M s : Nat) : Prop := ∃ p, Nrm N M p ∧ s = min (fl N M p) 9218868437227405312
theorem Rd.mono {N M s N' M' s' : Nat} (h : Rd N M s) (h' : Rd N' M' s') (hM : 0 < M) (hM' : 0 < M') (hle : N * M' ≤ N' * M) : s ≤ s' := by
  obtain ⟨p, h1, e1⟩ := h
  obtain ⟨p', h2, e2⟩ := h'
  have h3 := fl_mono h1 h2 hM hM' hle
  rw [e1, e2]
  exact Nat.le_min.2 ⟨Nat.le_trans (Nat.min_le_left _ _) h3, Nat.min_le_right _ _⟩
theorem Rd.le_S {N M s t : Nat} (h : Rd N M s) (hM : 0 < M) (hle : N * 2 ^ cE ≤ WS t * M) : s ≤ t := by
  obtain ⟨p, h1, e1⟩ := h
  have h2 := fl_le_S h1 hM hle
  rw [e1]
  exact Nat.le_trans (Nat.min_le_left _ _) h2
theorem Rd.S_le {N M s t : Nat} (h : Rd N M s) (hM : 0 < M) (hle : WS t * M ≤ N * 2 ^ cE) (ht : t ≤ 9218868437227405312) : t ≤ s := by
  obtain ⟨p, h1, e1⟩ := h
  have h2 := S_le_fl h1 hM hle
  rw [e1]
  exact Nat.le_min.2 ⟨h2, ht⟩
theorem Rd.inf {N M s : Nat} (h : Rd N M s) : s ≤ 9218868437227405312 := by obtain ⟨p, h1, e1⟩ := h; rw [e1]; exact Nat.min_le_right _ _
theorem Rd.ratio {N M N' M' s : Nat} (h : Rd N M s) (hM : 0 < M) (hM' : 0 < M') (he : N * M' = N' * M) : Rd N' M' s := by
  obtain ⟨p, hn, e0⟩ := h
  have hn' : Nrm N' M' p := by
    have e1 : N * 2 ^ cE * M' = N' * 2 ^ cE * M := by rw [Nat.mul_right_comm, he, Nat.mul_right_comm]
    have e2 : ∀ K : Nat, K * (M * 2 ^ p) * M' = K * (M' * 2 ^ p) * M := fun K => by
      generalize 2 ^ p = Z
      calc K * (M * Z) * M' = K * (M * Z * M') := Nat.mul_assoc _ _ _
        _ = K * (M' * Z * M) := by rw [Nat.mul_right_comm M Z M', Nat.mul_right_comm M' Z M, Nat.mul_comm M M']
        _ = K * (M' * Z) * M := (Nat.mul_assoc _ _ _).symm
    refine ⟨?_, ?_⟩
    · have h1 := Nat.mul_lt_mul_of_pos_right hn.hi hM'
      rw [e1, e2] at h1
      exact Nat.lt_of_mul_lt_mul_right h1
    · rcases hn.lo with e | h1
      · exact .inl e
      · right
        have h2 := Nat.mul_le_mul_right M' h1
        rw [e1, e2] at h2
        exact Nat.le_of_mul_le_mul_right h2 hM
  exact ⟨p, hn', by rw [e0, fl_same hn hn' hM hM' he]⟩
theorem Rd.zero {M : Nat} (hM : 0 < M) : Rd 0 M 0 := by
  refine ⟨0, ⟨by rw [Nat.zero_mul]; exact Nat.mul_pos (by decide) (mul_pow_pos hM 0), .inl rfl⟩, ?_⟩
  have h := roundV_hi (t := 0) (N := 0 * 2 ^ cE) (mul_pow_pos hM 0) (by simp) 2
  have e : fl 0 M 0 = 0 := by
    unfold fl
    rw [Nat.le_zero.1 h]
  rw [e]
  rfl
theorem near_rd (neg : Bool) (mag : Nat) (place : Int) : ∃ s, Ieee.double.nearest neg mag place = Ieee.double.word neg s ∧ Rd (upN mag place) (dnN place) s := by
  rcases Nat.eq_zero_or_pos mag with h | h
  · refine ⟨0, ?_, ?_⟩
    · unfold Format.nearest; rw [if_pos h]
    · have : upN mag place = 0 := by unfold upN; rw [h, Nat.zero_mul]
      rw [this]; exact Rd.zero (dnN_pos _)
  · obtain ⟨p, h1, h2⟩ := nearest_fl neg mag place h
    exact ⟨_, h2, p, h1, rfl⟩
theorem upDnT {mag T c : Nat} (h : mag * 2 ^ c = T) : upN mag ((c : Int) - 1074) * 2 ^ cE = T * dnN ((c : Int) - 1074) := by
  have hc := cE_eq
  unfold upN dnN
  rcases Nat.lt_or_ge c 1074 with q | q
  · rw [show ((c : Int) - 1074).toNat = 0 by omega, show (-((c : Int) - 1074)).toNat = 1074 - c by omega, Nat.pow_zero, Nat.mul_one, ← h, Nat.mul_assoc, ← Nat.pow_add, show c + (1074 - c) = cE by omega]
  · rw [show ((c : Int) - 1074).toNat = c - 1074 by omega, show (-((c : Int) - 1074)).toNat = 0 by omega, Nat.pow_zero, Nat.mul_one, ← h, Nat.mul_assoc, ← Nat.pow_add, show c - 1074 + cE = c by omega]
theorem upDn2 {mag T c : Nat} (h : mag * 2 ^ c = T) : upN mag ((c : Int) - 2148) * (2 ^ cE * 2 ^ cE) = T * dnN ((c : Int) - 2148) := by
  have hc := cE_eq
  unfold upN dnN
  rw [← Nat.pow_add]
  rcases Nat.lt_or_ge c 2148 with q | q
  · rw [show ((c : Int) - 2148).toNat = 0 by omega, show (-((c : Int) - 2148)).toNat = 2148 - c by omega, Nat.pow_zero, Nat.mul_one, ← h, Nat.mul_assoc, ← Nat.pow_add, show c + (2148 - c) = cE + cE by omega]
  · rw [show ((c : Int) - 2148).toNat = c - 2148 by omega, show (-((c : Int) - 2148)).toNat = 0 by omega, Nat.pow_zero, Nat.mul_one, ← h, Nat.mul_assoc, ← Nat.pow_add, show c - 2148 + (cE + cE) = c by omega]
theorem cE_pos : 0 < 2 ^ cE := pow_pos2 _
/-- The sum of two numbers, one of them perhaps turned, written. -/
theorem sum_rd {s t : Nat} {m n : Bool} {A B : Int} (ha : (if m then -(WS s : Int) else (WS s : Int)) = A) (hb : (if n then -(WS t : Int) else (WS t : Int)) = B) :
    ∃ neg r, ((Datum.number m (manS s) (expS s)).sum (Datum.number n (manS t) (expS t))).map Ieee.double.write = some (Ieee.double.word neg r) ∧ Rd (A + B).natAbs (2 ^ cE) r ∧ (A + B < 0 → neg = true) ∧ (0 < A + B → neg = false) := by
  simp only [Datum.sum, expS_pS]
  have e1 : ((pS s : Int) - 1074 - min ((pS s : Int) - 1074) ((pS t : Int) - 1074)).toNat = pS s - min (pS s) (pS t) := by omega
  have e2 : ((pS t : Int) - 1074 - min ((pS s : Int) - 1074) ((pS t : Int) - 1074)).toNat = pS t - min (pS s) (pS t) := by omega
  have e3 : min ((pS s : Int) - 1074) ((pS t : Int) - 1074) = ((min (pS s) (pS t) : Nat) : Int) - 1074 := by omega
  have w1 := signed_W m s (min (pS s) (pS t)) (Nat.min_le_left _ _)
  have w2 := signed_W n t (min (pS s) (pS t)) (Nat.min_le_right _ _)
  rw [e1, e2, e3]
  rw [ha] at w1
  rw [hb] at w2
  generalize signed m (manS s) (pS s - min (pS s) (pS t)) = x at *
  generalize signed n (manS t) (pS t - min (pS s) (pS t)) = y at *
  generalize min (pS s) (pS t) = c at *
  have hx : (x + y) * ((2 ^ c : Nat) : Int) = A + B := by rw [Int.add_mul, w1, w2]
  have hpc : (0 : Int) < ((2 ^ c : Nat) : Int) := by have := pow_pos2 c; omega
  have hnat : (x + y).natAbs * 2 ^ c = (A + B).natAbs := by
    have := congrArg Int.natAbs hx
    rwa [Int.natAbs_mul, Int.natAbs_natCast] at this
  obtain ⟨r, h1, h2⟩ := near_rd (if x + y = 0 then m && n else decide (x + y < 0)) (x + y).natAbs ((c : Int) - 1074)
  refine ⟨_, r, congrArg some h1, h2.ratio (dnN_pos _) cE_pos (upDnT hnat), fun h => ?_, fun h => ?_⟩
  · have : x + y < 0 := by
      rcases Int.lt_or_le (x + y) 0 with q | q
      · exact q
      · have := Int.mul_nonneg q (Int.le_of_lt hpc); omega
    rw [if_neg (by omega), decide_eq_true this]
  · have : 0 < x + y := by
      rcases Int.lt_or_le 0 (x + y) with q | q
      · exact q
      · have := Int.mul_nonneg (show 0 ≤ -(x + y) by omega) (Int.le_of_lt hpc)
        rw [Int.neg_mul, hx] at this; omega
    rw [if_neg (by omega), decide_eq_false (by omega)]
theorem word_sz' {neg : Bool} {s : Nat} (hs : s ≤ 9218868437227405312) : szB (Ieee.double.word neg s) = s ∧ negB (Ieee.double.word neg s) = neg ∧ Ieee.double.word neg s ≤ 18446744073709551615 := by
  cases neg
  · rw [word_pos]
    exact ⟨by unfold szB; omega, decide_eq_false (by omega), by omega⟩
  · rw [word_neg]
    exact ⟨by unfold szB; omega, decide_eq_true (by omega), by omega⟩
/-- What a float operation gives: the exact value is T over M, rounded. -/
structure Op1 (T : Int) (M r : Nat) : Prop where
  le : r ≤ 18446744073709551615
  rd : Rd T.natAbs M (szB r)
  neg : T < 0 → negB r = true
  pos : 0 < T → negB r = false
theorem Op1.szi {T : Int} {M r : Nat} (h : Op1 T M r) : szB r ≤ 9218868437227405312 := h.rd.inf
theorem Op1.nan {T : Int} {M r : Nat} (h : Op1 T M r) : nanB r = false := decide_eq_false (by have := h.szi; omega)
theorem add_op {x y : Nat} (hx : x ≤ 18446744073709551615) (hy : y ≤ 18446744073709551615) (fx : szB x < 9218868437227405312) (fy : szB y < 9218868437227405312) : ∃ r, floatBits .add .f64 x y = some r ∧ Op1 (VB x + VB y) (2 ^ cE) r := by
  obtain ⟨neg, r, h1, h2, h3, h4⟩ := sum_rd (m := negB x) (n := negB y) (s := szB x) (t := szB y) (A := VB x) (B := VB y) rfl rfl
  obtain ⟨w1, w2, w3⟩ := word_sz' (neg := neg) h2.inf
  refine ⟨_, ?_, w3, by rw [w1]; exact h2, by rw [w2]; exact h3, by rw [w2]; exact h4⟩
  show Ieee.double.add x y = _
  unfold Format.add
  rw [read_fin hx fx, read_fin hy fy]
  exact h1
theorem sub_op {x y : Nat} (hx : x ≤ 18446744073709551615) (hy : y ≤ 18446744073709551615) (fx : szB x < 9218868437227405312) (fy : szB y < 9218868437227405312) : ∃ r, floatBits .sub .f64 x y = some r ∧ Op1 (VB x - VB y) (2 ^ cE) r := by
  have hb : (if (!negB y) = true then -(WS (szB y) : Int) else (WS (szB y) : Int)) = -VB y := by
    unfold VB; cases negB y <;> simp
  obtain ⟨neg, r, h1, h2, h3, h4⟩ := sum_rd (m := negB x) (n := !negB y) (s := szB x) (t := szB y) (A := VB x) (B := -VB y) rfl hb
  rw [← Int.sub_eq_add_neg] at h2 h3 h4
  obtain ⟨w1, w2, w3⟩ := word_sz' (neg := neg) h2.inf
  refine ⟨_, ?_, w3, by rw [w1]; exact h2, by rw [w2]; exact h3, by rw [w2]; exact h4⟩
  show Ieee.double.sub x y = _
  unfold Format.sub
  rw [read_fin hx fx, read_fin hy fy]
  exact h1
theorem mul_op {x y : Nat} (hx : x ≤ 18446744073709551615) (hy : y ≤ 18446744073709551615) (fx : szB x < 9218868437227405312) (fy : szB y < 9218868437227405312) :
    ∃ r, floatBits .mul .f64 x y = some r ∧ r ≤ 18446744073709551615 ∧ negB r = (negB x ^^ negB y) ∧ Rd (WS (szB x) * WS (szB y)) (2 ^ cE * 2 ^ cE) (szB r) := by
  have hT : manS (szB x) * manS (szB y) * 2 ^ (pS (szB x) + pS (szB y)) = WS (szB x) * WS (szB y) := by
    unfold WS; rw [Nat.pow_add, Nat.mul_mul_mul_comm]
  obtain ⟨r, h1, h2⟩ := near_rd (negB x ^^ negB y) (manS (szB x) * manS (szB y)) (((pS (szB x) + pS (szB y) : Nat) : Int) - 2148)
  have h3 := h2.ratio (dnN_pos _) (Nat.mul_pos cE_pos cE_pos) (upDn2 hT)
  obtain ⟨w1, w2, w3⟩ := word_sz' (neg := negB x ^^ negB y) h3.inf
  refine ⟨_, ?_, w3, w2, by rw [w1]; exact h3⟩
  show Ieee.double.mul x y = _
  unfold Format.mul
  rw [read_fin hx fx, read_fin hy fy]
  show some (Ieee.double.nearest _ _ _) = _
  rw [← h1, expS_pS, expS_pS]
  congr 2
  omega
/-- The whole number below. -/
def fiB (b : Nat) : Nat := WS (szB b) / 2 ^ cE
theorem cut_zero (neg : Bool) (n drop : Nat) : Toward.zero.cut neg n drop = n / 2 ^ drop := by
  unfold Toward.cut
  simp only [Bool.toNat_false, Nat.add_zero, Nat.shiftLeft_eq, Nat.one_mul]
  rcases Nat.lt_or_ge (n.log2 + 2) drop with h | h
  · rw [Nat.min_eq_right (by omega)]
    have h1 : n < 2 ^ (n.log2 + 1) := Nat.lt_log2_self
    have h2 : 2 ^ (n.log2 + 1) ≤ 2 ^ (n.log2 + 2) := Nat.pow_le_pow_right (by omega) (by omega)
    have h3 : 2 ^ (n.log2 + 2) ≤ 2 ^ drop := Nat.pow_le_pow_right (by omega) (by omega)
    rw [Nat.div_eq_of_lt (by omega), Nat.div_eq_of_lt (by omega)]
  · rw [Nat.min_eq_left h]
theorem man_div (s : Nat) : (manS s <<< ((pS s : Int) - 1074).toNat) / 2 ^ (-((pS s : Int) - 1074)).toNat = WS s / 2 ^ cE := by
  have hc := cE_eq
  rw [Nat.shiftLeft_eq]
  unfold WS
  rcases Nat.lt_or_ge (pS s) 1074 with q | q
  · rw [show ((pS s : Int) - 1074).toNat = 0 by omega, show (-((pS s : Int) - 1074)).toNat = 1074 - pS s by omega, Nat.pow_zero, Nat.mul_one, show cE = pS s + (1074 - pS s) by omega, Nat.pow_add, Nat.mul_comm (manS s) (2 ^ pS s), Nat.mul_div_mul_left _ _ (pow_pos2 _)]
  · rw [show ((pS s : Int) - 1074).toNat = pS s - 1074 by omega, show (-((pS s : Int) - 1074)).toNat = 0 by omega, Nat.pow_zero, Nat.div_one]
    have e : manS s * 2 ^ pS s = manS s * 2 ^ (pS s - 1074) * 2 ^ cE := by rw [Nat.mul_assoc, ← Nat.pow_add, show pS s - 1074 + cE = pS s by omega]
    rw [e, Nat.mul_div_cancel _ (pow_pos2 _)]
theorem toInt_fin {b : Nat} (hb : b ≤ 18446744073709551615) (hs : szB b < 9218868437227405312) (hn : negB b = true → szB b = 0) (hf : fiB b ≤ 9223372036854775807) : floatToIntVal .f64 b .i64 = some ((fiB b : Nat) : Int) := by
  unfold floatToIntVal
  have e : (FloatKind.f64.decode b).toInt .zero = some ((fiB b : Nat) : Int) := by
    show (Ieee.double.read b).toInt .zero = _
    rw [read_fin hb hs]
    unfold Datum.toInt Datum.integral
    simp only [cut_zero, expS_pS, man_div]
    unfold signed
    simp only [Nat.shiftLeft_zero]
    rcases hg : negB b with _ | _
    · simp [fiB]
    · have := hn hg
      simp [fiB, this, WS_zero]
  rw [e]
  simp only
  rw [if_pos]
  have h1 : IntKind.i64.min = -9223372036854775808 := by decide
  have h2 : IntKind.i64.max = 9223372036854775807 := by decide
  rw [h1, h2]
  omega
end Go.Proofs.Ytffibfnagoagcaa
