/- The model's floats (IEEE 754) against whole numbers: reading, writing, order, product. -/
import Derived.Test.YtffibfnagoagcaaFlo
namespace Go.Proofs.Ytffibfnagoagcaa
open Ieee
set_option maxRecDepth 100000

theorem dbl_sign : Ieee.double.signWeight = 9223372036854775808 := by decide
theorem dbl_bin : Ieee.double.binade = 4503599627370496 := by decide
theorem dbl_inf : Ieee.double.infRung = 9218868437227405312 := by decide
theorem dbl_least : Ieee.double.leastPlace = -1074 := by decide
theorem dbl_frac : Ieee.double.fractionBits = 52 := rfl

theorem word_pos (r : Nat) : Ieee.double.word false r = r := rfl
theorem word_neg (r : Nat) : Ieee.double.word true r = 9223372036854775808 + r := by unfold Format.word; rw [dbl_sign]; rfl

theorem roundV_tiny {N M : Nat} (h : 2 * N < M) : roundV N M 2 = 0 := by
  have := roundV_close (t := 0) (N := N) (M := M) (by omega) (by omega) (by omega)
  exact this

theorem cut_at (n k : Nat) : n / 2 ^ k + (2 ^ k < 2 * (n % 2 ^ k) || (2 ^ k == 2 * (n % 2 ^ k) && n / 2 ^ k % 2 == 1)).toNat = roundV n (2 ^ k) 2 := by
  generalize 2 ^ k = g
  by_cases h : g < n % g + n % g ∨ n % g + n % g = g ∧ n / g % 2 = 1
  · unfold roundV
    rw [upB_true (.inr ⟨rfl, h⟩), if_pos rfl]
    have : (g < 2 * (n % g) || (g == 2 * (n % g) && n / g % 2 == 1)) = true := by
      simp only [Bool.or_eq_true, Bool.and_eq_true, decide_eq_true_eq, beq_iff_eq]; omega
    rw [this]; rfl
  · unfold roundV
    rw [upB_false (by rintro (⟨h1, _⟩ | ⟨_, h2⟩); · omega
                      · exact h h2)]
    have : (g < 2 * (n % g) || (g == 2 * (n % g) && n / g % 2 == 1)) = false := by
      rw [Bool.eq_false_iff]
      simp only [ne_eq, Bool.or_eq_true, Bool.and_eq_true, decide_eq_true_eq, beq_iff_eq]; omega
    rw [this]; rfl

theorem cut_even (neg : Bool) (n drop : Nat) : Toward.even.cut neg n drop = roundV n (2 ^ drop) 2 := by
  unfold Toward.cut
  simp only [Nat.shiftLeft_eq, Nat.one_mul]
  rw [cut_at]
  rcases Nat.lt_or_ge (n.log2 + 2) drop with h | h
  · rw [Nat.min_eq_right (by omega)]
    have h1 : n < 2 ^ (n.log2 + 1) := Nat.lt_log2_self
    have h2 : 2 ^ (n.log2 + 1) * 2 = 2 ^ (n.log2 + 2) := rfl
    have h3 : 2 ^ (n.log2 + 2) ≤ 2 ^ drop := Nat.pow_le_pow_right (by omega) (by omega)
    rw [roundV_tiny (by omega), roundV_tiny (by omega)]
  · rw [Nat.min_eq_left h]

theorem nearest_fl (neg : Bool) (mag : Nat) (place : Int) (hm : 0 < mag) :
    ∃ p, Nrm (upN mag place) (dnN place) p ∧ Ieee.double.nearest neg mag place = Ieee.double.word neg (min (fl (upN mag place) (dnN place) p) 9218868437227405312) := by
  have l1 : mag < 2 ^ (mag.log2 + 1) := Nat.lt_log2_self
  have l2 : 2 ^ mag.log2 ≤ mag := Nat.log2_self_le (by omega)
  generalize hl : mag.log2 = l at *
  have hc := cE_eq
  obtain ⟨last, hlast⟩ : ∃ last : Int, last = max (place + l - 52) (-1074) := ⟨_, rfl⟩
  refine ⟨(last + 1074).toNat, ⟨?_, ?_⟩, ?_⟩
  · unfold upN dnN
    have e1 : mag * 2 ^ place.toNat * 2 ^ cE = mag * 2 ^ (place.toNat + cE) := by rw [Nat.pow_add, Nat.mul_assoc]
    have e2 : 2 ^ 53 * (2 ^ (-place).toNat * 2 ^ (last + 1074).toNat) = 2 ^ (53 + ((-place).toNat + (last + 1074).toNat)) := by rw [Nat.pow_add, Nat.pow_add]
    rw [e1, e2]
    have h1 : mag * 2 ^ (place.toNat + cE) < 2 ^ (l + 1) * 2 ^ (place.toNat + cE) := Nat.mul_lt_mul_of_pos_right l1 (pow_pos2 _)
    rw [← Nat.pow_add] at h1
    exact Nat.lt_of_lt_of_le h1 (Nat.pow_le_pow_right (by omega) (by omega))
  · rcases Int.lt_or_le (-1074) last with h | h
    · right
      unfold upN dnN
      have e1 : mag * 2 ^ place.toNat * 2 ^ cE = mag * 2 ^ (place.toNat + cE) := by rw [Nat.pow_add, Nat.mul_assoc]
      have e2 : 2 ^ 52 * (2 ^ (-place).toNat * 2 ^ (last + 1074).toNat) = 2 ^ (52 + ((-place).toNat + (last + 1074).toNat)) := by rw [Nat.pow_add, Nat.pow_add]
      rw [e1, e2]
      have h1 : 2 ^ l * 2 ^ (place.toNat + cE) ≤ mag * 2 ^ (place.toNat + cE) := Nat.mul_le_mul_right _ l2
      rw [← Nat.pow_add] at h1
      exact Nat.le_trans (Nat.pow_le_pow_right (by omega) (by omega)) h1
    · left; omega
  · unfold Format.nearest
    rw [if_neg (by omega), dbl_least, dbl_frac, dbl_inf, dbl_bin, hl]
    have e0 : max (place + (l : Int) - ((52 : Nat) : Int)) (-1074) = last := hlast.symm
    simp only [e0, cut_even]
    congr 2
    unfold fl
    have e1 : (last - -1074).toNat = (last + 1074).toNat := by omega
    rw [e1]
    congr 1
    rw [Nat.shiftLeft_eq]
    refine roundV_ratio (pow_pos2 _) (Nat.mul_pos (dnN_pos _) (pow_pos2 _)) ?_ 2
    unfold upN dnN
    rw [Nat.mul_assoc, Nat.mul_assoc, Nat.mul_assoc, ← Nat.pow_add, ← Nat.pow_add, ← Nat.pow_add, ← Nat.pow_add]
    refine congrArg (fun n => mag * 2 ^ n) ?_
    omega

/-- A number that a float has is written as that float. -/
theorem nearest_S (neg : Bool) {mag s : Nat} {place : Int} (hm : 0 < mag) (hs : s < 9218868437227405312) (he : upN mag place * 2 ^ cE = WS s * dnN place) :
    Ieee.double.nearest neg mag place = Ieee.double.word neg s := by
  obtain ⟨p, hn, h⟩ := nearest_fl neg mag place hm
  rw [h, fl_eq_S hn (dnN_pos _) he, Nat.min_eq_left (by omega)]

theorem read_fin {b : Nat} (hb : b ≤ 18446744073709551615) (hs : szB b < 9218868437227405312) : Ieee.double.read b = .number (negB b) (manS (szB b)) (expS (szB b)) := by
  unfold Format.read
  rw [dbl_sign, dbl_bin, dbl_inf, dbl_least]
  have e0 : (b / 9223372036854775808 % 2 == 1) = negB b := by
    unfold negB
    by_cases h : 9223372036854775808 ≤ b
    · rw [decide_eq_true h, beq_iff_eq]; omega
    · rw [decide_eq_false h, beq_eq_false_iff_ne]; omega
  rw [e0]
  change (if szB b < 4503599627370496 then Datum.number (negB b) (szB b) (-1074) else if szB b < 9218868437227405312 then Datum.number (negB b) (4503599627370496 + szB b % 4503599627370496) (-1074 + (szB b / 4503599627370496 - 1 : Nat)) else if szB b = 9218868437227405312 then Datum.infinity (negB b) else Datum.nan (negB b) (szB b - 9218868437227405312)) = _
  by_cases h : szB b < 4503599627370496
  · have e1 : manS (szB b) = szB b := by unfold manS; rw [if_pos (by omega)]; omega
    have e2 : expS (szB b) = -1074 := by unfold expS; rw [if_pos (by omega)]
    rw [if_pos h, e1, e2]
  · have e1 : manS (szB b) = 4503599627370496 + szB b % 4503599627370496 := by unfold manS; rw [if_neg (by omega)]; omega
    have e2 : expS (szB b) = -1074 + (szB b / 4503599627370496 - 1 : Nat) := by unfold expS; rw [if_neg (by omega)]; omega
    rw [if_neg h, if_pos hs, e1, e2]

theorem read_inf {b : Nat} (hs : szB b = 9218868437227405312) : ∃ n, Ieee.double.read b = .infinity n := by
  unfold Format.read
  rw [dbl_sign, dbl_bin, dbl_inf, dbl_least]
  have e : b % 9223372036854775808 = 9218868437227405312 := hs
  simp [e]
theorem read_nan {b : Nat} (hs : 9218868437227405312 < szB b) : ∃ n t, Ieee.double.read b = .nan n t := by
  unfold Format.read
  rw [dbl_sign, dbl_bin, dbl_inf, dbl_least]
  have e : 9218868437227405312 < b % 9223372036854775808 := hs
  simp only
  rw [if_neg (by omega), if_neg (by omega), if_neg (by omega)]
  exact ⟨_, _, rfl⟩

/-- The number of a finite float, in units of 2^-1074. -/
def VB (b : Nat) : Int := if negB b then -(WS (szB b) : Int) else (WS (szB b) : Int)

theorem cmp_def (x y : Int) : compare x y = if x < y then Ordering.lt else if x = y then Ordering.eq else Ordering.gt := rfl
theorem order_lt_iff {x y : Int} : compare x y = .lt ↔ x < y := by
  rw [cmp_def]; split
  · simp_all
  · split <;> simp_all
theorem order_eq_iff {x y : Int} : compare x y = .eq ↔ x = y := by
  rw [cmp_def]; split
  · simp; omega
  · split <;> simp_all
theorem order_gt_iff {x y : Int} : compare x y = .gt ↔ y < x := by
  rw [cmp_def]; split
  · simp; omega
  · split
    · simp; omega
    · simp; omega
theorem compare_mul {x y k : Int} (hk : 0 < k) : compare (x * k) (y * k) = compare x y := by
  rcases Int.lt_trichotomy x y with h | h | h
  · rw [order_lt_iff.2 h, order_lt_iff.2 (Int.mul_lt_mul_of_pos_right h hk)]
  · subst h; rw [order_eq_iff.2 rfl, order_eq_iff.2 rfl]
  · rw [order_gt_iff.2 h, order_gt_iff.2 (Int.mul_lt_mul_of_pos_right h hk)]

theorem signed_W (neg : Bool) (s c : Nat) (h : c ≤ pS s) : signed neg (manS s) (pS s - c) * ((2 ^ c : Nat) : Int) = if neg then -(WS s : Int) else (WS s : Int) := by
  have e : manS s <<< (pS s - c) * 2 ^ c = WS s := by
    unfold WS
    rw [Nat.shiftLeft_eq, Nat.mul_assoc, ← Nat.pow_add]
    congr 2
    omega
  unfold signed
  cases neg
  · simp only [Bool.false_eq_true, if_false]
    rw [← e]; push_cast; rfl
  · simp only [if_true]
    rw [Int.neg_mul, ← e]; push_cast; rfl

theorem order_fin {a b : Nat} (ha : a ≤ 18446744073709551615) (hb : b ≤ 18446744073709551615) (ha' : szB a < 9218868437227405312) (hb' : szB b < 9218868437227405312) :
    Ieee.double.order a b = some (compare (VB a) (VB b)) := by
  unfold Format.order
  rw [read_fin ha ha', read_fin hb hb']
  unfold Datum.order
  simp only [expS_pS]
  have e1 : ((pS (szB a) : Int) - 1074 - min ((pS (szB a) : Int) - 1074) ((pS (szB b) : Int) - 1074)).toNat = pS (szB a) - min (pS (szB a)) (pS (szB b)) := by omega
  have e2 : ((pS (szB b) : Int) - 1074 - min ((pS (szB a) : Int) - 1074) ((pS (szB b) : Int) - 1074)).toNat = pS (szB b) - min (pS (szB a)) (pS (szB b)) := by omega
  rw [e1, e2, ← compare_mul (k := ((2 ^ min (pS (szB a)) (pS (szB b)) : Nat) : Int)) (by have := pow_pos2 (min (pS (szB a)) (pS (szB b))); omega), signed_W _ _ _ (Nat.min_le_left _ _), signed_W _ _ _ (Nat.min_le_right _ _)]
  rfl

theorem VB_pos {b : Nat} (h : negB b = false) : VB b = (WS (szB b) : Int) := by unfold VB; rw [h]; rfl
theorem VB_neg {b : Nat} (h : negB b = true) : VB b = -(WS (szB b) : Int) := by unfold VB; rw [h]; rfl

/-- The product with 1. -/
theorem mul_one_S {s : Nat} (hs : s < 9218868437227405312) (h0 : 0 < s) : Ieee.double.mul 4607182418800017408 s = some s := by
  have hz : szB s = s := Nat.mod_eq_of_lt (by omega)
  have hn : negB s = false := by unfold negB; exact decide_eq_false (by omega)
  have h1 := read_fin (b := s) (by omega) (by rw [hz]; exact hs)
  rw [hz, hn] at h1
  have h2 : Ieee.double.read 4607182418800017408 = .number false 4503599627370496 (-52) := by decide
  have hm : 0 < manS s := by
    have := manS_pS s
    rcases Nat.eq_zero_or_pos (pS s) with h | h
    · rw [h] at this; omega
    · have := manS_ge h; omega
  unfold Format.mul
  rw [h1, h2]
  simp only [Datum.product, Option.map_some, Format.write]
  have e : (false ^^ false) = false := rfl
  rw [e, nearest_S false (Nat.mul_pos (by omega) hm) hs, word_pos]
  unfold upN dnN WS
  rw [expS_pS]
  have hc := cE_eq
  have e2 : (4503599627370496 : Nat) = 2 ^ 52 := by decide
  rw [e2]
  generalize manS s = m
  rw [Nat.mul_comm (2 ^ 52) m, Nat.mul_assoc, Nat.mul_assoc, Nat.mul_assoc, ← Nat.pow_add, ← Nat.pow_add, ← Nat.pow_add]
  refine congrArg (fun n => m * 2 ^ n) ?_
  omega
end Go.Proofs.Ytffibfnagoagcaa
