/- Floats that are whole numbers: their sums and differences are exact. -/
import Derived.Test.YtffibfnagoagcaaMetA
namespace Go.Proofs.Ytffibfnagoagcaa
open Ieee
set_option maxRecDepth 100000

theorem ws_ex {N : Nat} (h0 : 0 < N) (h : N < 9007199254740992) : ∃ s, 0 < s ∧ s < 9218868437227405312 ∧ WS s = N * 2 ^ cE := by
  have l1 : N < 2 ^ (N.log2 + 1) := Nat.lt_log2_self
  have l2 : 2 ^ N.log2 ≤ N := Nat.log2_self_le (by omega)
  generalize hl : N.log2 = l at *
  have hl53 : l < 53 := by
    rcases Nat.lt_or_ge l 53 with q | q
    · exact q
    · exfalso
      have : 2 ^ 53 ≤ 2 ^ l := Nat.pow_le_pow_right (by omega) q
      have e : (2 : Nat) ^ 53 = 9007199254740992 := by decide
      omega
  have e1 : 2 ^ (l + 1) * 2 ^ (52 - l) = 9007199254740992 := by rw [← Nat.pow_add, show l + 1 + (52 - l) = 53 by omega]
  have e2 : 2 ^ l * 2 ^ (52 - l) = 4503599627370496 := by rw [← Nat.pow_add, show l + (52 - l) = 52 by omega]
  have m1 : N * 2 ^ (52 - l) < 9007199254740992 := by rw [← e1]; exact Nat.mul_lt_mul_of_pos_right l1 (pow_pos2 _)
  have m2 : 4503599627370496 ≤ N * 2 ^ (52 - l) := by rw [← e2]; exact Nat.mul_le_mul_right _ l2
  generalize hm : N * 2 ^ (52 - l) = m at *
  have hp : pS ((1022 + l) * 4503599627370496 + m) = 1022 + l := by unfold pS; omega
  have hms : manS ((1022 + l) * 4503599627370496 + m) = m := by unfold manS; rw [if_neg (by omega)]; omega
  refine ⟨(1022 + l) * 4503599627370496 + m, by omega, by omega, ?_⟩
  unfold WS
  rw [hp, hms, ← hm, Nat.mul_assoc, ← Nat.pow_add, cE_eq, show 52 - l + (1022 + l) = 1074 by omega]
/-- The float b is the whole number z. -/
structure Wh (z : Int) (b : Nat) : Prop where
  le : b ≤ 18446744073709551615
  fin : szB b < 9218868437227405312
  val : VB b = z * ((2 ^ cE : Nat) : Int)
theorem Wh.nan {z : Int} {b : Nat} (h : Wh z b) : nanB b = false := decide_eq_false (by have := h.fin; omega)
theorem Wh.fnB {z : Int} {b : Nat} (h : Wh z b) : fnB b = true := decide_eq_true h.fin
theorem Wh.can {z : Int} {b : Nat} (h : Wh z b) : Wh z (canB b) := by rw [can_fin h.nan]; exact h
theorem word_sz {neg : Bool} {s : Nat} (hs : s < 9218868437227405312) : szB (Ieee.double.word neg s) = s ∧ negB (Ieee.double.word neg s) = neg ∧ Ieee.double.word neg s ≤ 18446744073709551615 := by
  cases neg
  · rw [word_pos]
    exact ⟨by unfold szB; omega, decide_eq_false (by omega), by omega⟩
  · rw [word_neg]
    exact ⟨by unfold szB; omega, decide_eq_true (by omega), by omega⟩
theorem wh_word {neg : Bool} {s N : Nat} (hs : s < 9218868437227405312) (h : WS s = N * 2 ^ cE) : Wh (if neg then -(N : Int) else N) (Ieee.double.word neg s) := by
  obtain ⟨h1, h2, h3⟩ := word_sz (neg := neg) hs
  refine ⟨h3, by rw [h1]; exact hs, ?_⟩
  unfold VB
  rw [h1, h2, h]
  cases neg
  · simp only [Bool.false_eq_true, if_false]; push_cast; rfl
  · simp only [if_true]; push_cast; rw [Int.neg_mul]
theorem upDn {mag N c : Nat} (h : mag * 2 ^ c = N * 2 ^ cE) : upN mag ((c : Int) - 1074) * 2 ^ cE = N * 2 ^ cE * dnN ((c : Int) - 1074) := by
  have hc := cE_eq
  unfold upN dnN
  rcases Nat.lt_or_ge c 1074 with q | q
  · rw [show ((c : Int) - 1074).toNat = 0 by omega, show (-((c : Int) - 1074)).toNat = 1074 - c by omega, Nat.pow_zero, Nat.mul_one, ← h, Nat.mul_assoc, ← Nat.pow_add, show c + (1074 - c) = cE by omega]
  · rw [show ((c : Int) - 1074).toNat = c - 1074 by omega, show (-((c : Int) - 1074)).toNat = 0 by omega, Nat.pow_zero, Nat.mul_one, ← h, Nat.mul_assoc, ← Nat.pow_add, show c - 1074 + cE = c by omega]
/-- The sum of two numbers, written: one of them perhaps turned. -/
theorem sum_wh {s t : Nat} {m n : Bool} {a b : Int} (ha : (if m then -(WS s : Int) else (WS s : Int)) = a * ((2 ^ cE : Nat) : Int)) (hb : (if n then -(WS t : Int) else (WS t : Int)) = b * ((2 ^ cE : Nat) : Int))
    (hab : (a + b).natAbs < 9007199254740992) : ∃ r, ((Datum.number m (manS s) (expS s)).sum (Datum.number n (manS t) (expS t))).map Ieee.double.write = some r ∧ Wh (a + b) r := by
  have hpw : 0 < 2 ^ cE := pow_pos2 _
  simp only [Datum.sum, expS_pS]
  have e1 : ((pS s : Int) - 1074 - min ((pS s : Int) - 1074) ((pS t : Int) - 1074)).toNat = pS s - min (pS s) (pS t) := by omega
  have e2 : ((pS t : Int) - 1074 - min ((pS s : Int) - 1074) ((pS t : Int) - 1074)).toNat = pS t - min (pS s) (pS t) := by omega
  have e3 : min ((pS s : Int) - 1074) ((pS t : Int) - 1074) = ((min (pS s) (pS t) : Nat) : Int) - 1074 := by omega
  have w1 := signed_W m s (min (pS s) (pS t)) (Nat.min_le_left _ _)
  have w2 := signed_W n t (min (pS s) (pS t)) (Nat.min_le_right _ _)
  rw [e1, e2, e3]
  rw [ha] at w1
  rw [hb] at w2
  generalize signed m (manS s) (pS s - min (pS s) (pS t)) = x at *
  generalize signed n (manS t) (pS t - min (pS s) (pS t)) = y at *
  generalize min (pS s) (pS t) = c at *
  have hx : (x + y) * ((2 ^ c : Nat) : Int) = (a + b) * ((2 ^ cE : Nat) : Int) := by rw [Int.add_mul, Int.add_mul, w1, w2]
  have hpc : 0 < 2 ^ c := pow_pos2 c
  have hpcZ : (0 : Int) < ((2 ^ c : Nat) : Int) := by omega
  have hpeZ : (0 : Int) < ((2 ^ cE : Nat) : Int) := by omega
  have hnat : (x + y).natAbs * 2 ^ c = (a + b).natAbs * 2 ^ cE := by
    have := congrArg Int.natAbs hx
    rwa [Int.natAbs_mul, Int.natAbs_mul, Int.natAbs_natCast, Int.natAbs_natCast] at this
  refine ⟨_, rfl, ?_⟩
  show Wh (a + b) (Ieee.double.nearest _ _ _)
  by_cases h0 : x + y = 0
  · rw [h0, Int.zero_mul] at hx
    have hz : a + b = 0 := by
      rcases Int.mul_eq_zero.1 hx.symm with q | q
      · exact q
      · omega
    rw [h0, hz]
    unfold Format.nearest
    rw [if_pos rfl]
    have := wh_word (neg := if (0 : Int) = 0 then (m && n) else decide ((0 : Int) < 0)) (s := 0) (N := 0) (by omega) (by rw [WS_zero, Nat.zero_mul])
    simpa using this
  · have hN : 0 < (a + b).natAbs := by
      rcases Nat.eq_zero_or_pos (a + b).natAbs with q | q
      · rw [q, Nat.zero_mul] at hnat
        rcases Nat.mul_eq_zero.1 hnat with q2 | q2 <;> omega
      · exact q
    obtain ⟨r, _, r2, r3⟩ := ws_ex hN hab
    rw [if_neg h0, nearest_S _ (by omega) r2 (by rw [r3]; exact upDn hnat)]
    have hW := wh_word (neg := decide (x + y < 0)) r2 r3
    have hsg : (if decide (x + y < 0) = true then -(((a + b).natAbs : Nat) : Int) else (((a + b).natAbs : Nat) : Int)) = a + b := by
      by_cases hlt : x + y < 0
      · rw [decide_eq_true hlt, if_pos rfl]
        have : (a + b) * ((2 ^ cE : Nat) : Int) < 0 := by rw [← hx]; exact Int.mul_neg_of_neg_of_pos hlt hpcZ
        have : a + b < 0 := by
          rcases Int.lt_or_le (a + b) 0 with q | q
          · exact q
          · have := Int.mul_nonneg q (Int.le_of_lt hpeZ); omega
        omega
      · rw [decide_eq_false hlt, if_neg (by simp)]
        have : 0 ≤ (a + b) * ((2 ^ cE : Nat) : Int) := by rw [← hx]; exact Int.mul_nonneg (by omega) (Int.le_of_lt hpcZ)
        have : 0 ≤ a + b := by
          rcases Int.lt_or_le (a + b) 0 with q | q
          · have := Int.mul_neg_of_neg_of_pos q hpeZ; omega
          · exact q
        omega
    rw [hsg] at hW
    exact hW
section
variable {a b : Int} {x y : Nat}
theorem Wh.pos (h : Wh a x) : (if negB x = true then -(WS (szB x) : Int) else (WS (szB x) : Int)) = a * ((2 ^ cE : Nat) : Int) := h.val
theorem Wh.turned (h : Wh a x) : (if (!negB x) = true then -(WS (szB x) : Int) else (WS (szB x) : Int)) = -a * ((2 ^ cE : Nat) : Int) := by
  have := h.val
  unfold VB at this
  rw [Int.neg_mul, ← this]
  cases negB x <;> simp
theorem fop_some {op : BinOp} {r : Nat} (h : floatBits op .f64 x y = some r) : fop op x y = canB r := by unfold fop; rw [h]; rfl
theorem Wh.add (h : Wh a x) (k : Wh b y) (hab : (a + b).natAbs < 9007199254740992) : Wh (a + b) (fop .add x y) := by
  obtain ⟨r, h1, h2⟩ := sum_wh h.pos k.pos hab
  have e : floatBits .add .f64 x y = some r := by
    show Ieee.double.add x y = some r
    unfold Format.add
    rw [read_fin h.le h.fin, read_fin k.le k.fin]
    exact h1
  rw [fop_some e]
  exact h2.can
theorem Wh.sub (h : Wh a x) (k : Wh b y) (hab : (a - b).natAbs < 9007199254740992) : Wh (a - b) (fop .sub x y) := by
  obtain ⟨r, h1, h2⟩ := sum_wh (n := !negB y) h.pos k.turned (by rwa [← Int.sub_eq_add_neg])
  have e : floatBits .sub .f64 x y = some r := by
    show Ieee.double.sub x y = some r
    unfold Format.sub
    rw [read_fin h.le h.fin, read_fin k.le k.fin]
    exact h1
  rw [fop_some e]
  rw [← Int.sub_eq_add_neg] at h2
  exact h2.can
/-- Nothing is lost. -/
theorem Wh.miss (h : Wh a x) (k : Wh b y) (ha : a.natAbs < 4503599627370496) (hb : b.natAbs < 4503599627370496) : Wh 0 (missC x y (fop .add x y)) := by
  have hs := h.add k (by omega)
  unfold missC
  split
  · have h1 := h.sub hs (by omega)
    have h2 := h1.add k (by omega)
    have e : a - (a + b) + b = 0 := by omega
    rwa [e] at h2
  · have h1 := k.sub hs (by omega)
    have h2 := h1.add h (by omega)
    have e : b - (a + b) + a = 0 := by omega
    rwa [e] at h2
theorem wh_int {z : Int} (h : z.natAbs < 9007199254740992) : Wh z (floatOfInt FloatKind.f64 z) := by
  show Wh z (Ieee.double.nearest (decide (z < 0)) z.natAbs 0)
  rcases Nat.eq_zero_or_pos z.natAbs with q | q
  · unfold Format.nearest
    rw [if_pos q]
    have := wh_word (neg := decide (z < 0)) (s := 0) (N := 0) (by omega) (by rw [WS_zero, Nat.zero_mul])
    have e : z = 0 := by omega
    subst e
    simpa using this
  · obtain ⟨r, _, r2, r3⟩ := ws_ex q h
    rw [nearest_S _ q r2 (by
      rw [r3]
      unfold upN dnN
      show z.natAbs * 2 ^ 0 * 2 ^ cE = z.natAbs * 2 ^ cE * 2 ^ 0
      rw [Nat.pow_zero, Nat.mul_one, Nat.mul_one])]
    have hW := wh_word (neg := decide (z < 0)) r2 r3
    by_cases hz : z < 0
    · rw [decide_eq_true hz] at hW ⊢
      rw [if_pos rfl] at hW
      have e : -((z.natAbs : Nat) : Int) = z := by omega
      rwa [e] at hW
    · rw [decide_eq_false hz] at hW ⊢
      rw [if_neg (by simp)] at hW
      have e : ((z.natAbs : Nat) : Int) = z := by omega
      rwa [e] at hW
end
end Go.Proofs.Ytffibfnagoagcaa
