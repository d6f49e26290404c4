/- Mathematics of the law RateBursts: whole numbers and halves as floats. -/
import Derived.Test.YtafboimlchjnaaaDoorNeverM
namespace Go.Proofs.YtafboimlchjnaaaDoor
open Ieee
set_option maxRecDepth 100000

/-- The float of n over 2^j (j is 0 or 1). -/
def exB (n j : Nat) : Nat := (n.log2 + 1022 - j) * 4503599627370496 + n * 2 ^ (52 - n.log2)
theorem WS_mk {p m : Nat} (h1 : 4503599627370496 ≤ m) (h2 : m < 9007199254740992) : pS (p * 4503599627370496 + m) = p ∧ manS (p * 4503599627370496 + m) = m := by
  have e : pS (p * 4503599627370496 + m) = p := by unfold pS; omega
  refine ⟨e, ?_⟩
  have := manS_pS (p * 4503599627370496 + m)
  rw [e] at this; omega
theorem ex_man {n : Nat} (h0 : 0 < n) (hn : n < 131072) : 4503599627370496 ≤ n * 2 ^ (52 - n.log2) ∧ n * 2 ^ (52 - n.log2) < 9007199254740992 ∧ n.log2 ≤ 16 := by
  have l1 : 2 ^ n.log2 ≤ n := Nat.log2_self_le (by omega)
  have l2 : n < 2 ^ (n.log2 + 1) := Nat.lt_log2_self
  have l3 : n.log2 < 17 := (Nat.log2_lt (by omega)).2 (by omega)
  generalize n.log2 = l at *
  have e1 : 2 ^ l * 2 ^ (52 - l) = 4503599627370496 := by
    rw [← Nat.pow_add, show l + (52 - l) = 52 by omega]
  have e2 : 2 ^ (l + 1) * 2 ^ (52 - l) = 9007199254740992 := by
    rw [← Nat.pow_add, show l + 1 + (52 - l) = 53 by omega]
  refine ⟨?_, ?_, by omega⟩
  · rw [← e1]; exact Nat.mul_le_mul_right _ l1
  · rw [← e2]; exact Nat.mul_lt_mul_of_pos_right l2 (pow_pos2 _)
theorem WS_ex {n j : Nat} (h0 : 0 < n) (hn : n < 131072) (hj : j ≤ 1) : WS (exB n j) = n * 2 ^ (cE - j) := by
  obtain ⟨m1, m2, m3⟩ := ex_man h0 hn
  obtain ⟨e1, e2⟩ := WS_mk (p := n.log2 + 1022 - j) m1 m2
  have hc := cE_eq
  unfold WS exB
  rw [e1, e2, Nat.mul_assoc, ← Nat.pow_add]
  exact congrArg (fun k => n * 2 ^ k) (by omega)
theorem ex_lt {n j : Nat} (h0 : 0 < n) (hn : n < 131072) : exB n j < 9218868437227405312 ∧ 0 < exB n j := by
  obtain ⟨m1, m2, m3⟩ := ex_man h0 hn
  unfold exB
  omega
theorem sz_ex {n j : Nat} (h0 : 0 < n) (hn : n < 131072) : szB (exB n j) = exB n j := Nat.mod_eq_of_lt (by have := ex_lt (j := j) h0 hn; omega)
theorem float_n {n : Nat} (h0 : 0 < n) (hn : n < 131072) : floatOfInt FloatKind.f64 (n : Int) = exB n 0 := by
  rw [int_float h0 (by omega)]
  obtain ⟨P, _, _, g1, g2⟩ := nearB_ex (N := n) (M := 1) h0 (by omega) (by omega) (by omega)
  rw [g2]
  exact fl_eq_S g1 (by omega) (by rw [WS_ex h0 hn (by omega), Nat.mul_one, Nat.sub_zero])
def nB (n : Nat) : Nat := if n = 0 then 0 else exB n 0
theorem float_nB {n : Nat} (hn : n < 65536) : floatOfInt FloatKind.f64 (n : Int) = nB n := by
  unfold nB
  split
  · rename_i h; subst h; exact int_float0
  · exact float_n (by omega) (by omega)
theorem nB_lt {n : Nat} (hn : n < 65536) : nB n < 9218868437227405312 := by
  unfold nB
  split
  · omega
  · exact (ex_lt (by omega) (by omega)).1
theorem add_half {n : Nat} (hn : n < 65536) : Ieee.double.add (nB n) 4602678819172646912 = some (exB (2 * n + 1) 1) := by
  unfold nB
  split
  · rename_i h
    subst h
    decide +kernel
  · rename_i h
    have h0 : 0 < n := by omega
    obtain ⟨m1, m2, m3⟩ := ex_man h0 (by omega)
    obtain ⟨e1, e2⟩ := WS_mk (p := n.log2 + 1022 - 0) m1 m2
    have hlt := (ex_lt (n := n) (j := 0) h0 (by omega)).1
    have hz : szB (exB n 0) = exB n 0 := sz_ex h0 (by omega)
    have hng : negB (exB n 0) = false := by unfold negB; exact decide_eq_false (by omega)
    have h1 := read_fin (b := exB n 0) (by omega) (by rw [hz]; exact hlt)
    rw [hz, hng, expS_pS] at h1
    have e1' : pS (exB n 0) = n.log2 + 1022 - 0 := e1
    have e2' : manS (exB n 0) = n * 2 ^ (52 - n.log2) := e2
    rw [e1', e2'] at h1
    have h2 : Ieee.double.read 4602678819172646912 = .number false 4503599627370496 (-53) := by decide
    unfold Format.add
    rw [h1, h2]
    simp only [Datum.sum, Option.map_some, Format.write]
    have hb : min (((n.log2 + 1022 - 0 : Nat) : Int) - 1074) (-53) = -53 := by omega
    rw [hb]
    have k1 : (((n.log2 + 1022 - 0 : Nat) : Int) - 1074 - -53).toNat = n.log2 + 1 := by omega
    have k2 : ((-53 : Int) - -53).toNat = 0 := by decide
    rw [k1, k2]
    have t1 : signed false (n * 2 ^ (52 - n.log2)) (n.log2 + 1) + signed false 4503599627370496 0 = (((2 * n + 1) * 4503599627370496 : Nat) : Int) := by
      unfold signed
      rw [if_neg (by decide), if_neg (by decide), Nat.shiftLeft_eq, Nat.shiftLeft_eq, Nat.mul_assoc, ← Nat.pow_add, show 52 - n.log2 + (n.log2 + 1) = 53 by omega]
      omega
    rw [t1, if_neg (by omega), decide_eq_false (by omega), Int.natAbs_natCast]
    rw [nearest_S false (by omega) (s := exB (2 * n + 1) 1) (ex_lt (by omega) (by omega)).1, word_pos]
    rw [WS_ex (by omega) (by omega) (by omega)]
    unfold upN dnN
    have k3 : ((-53 : Int)).toNat = 0 := by decide
    have k4 : (- (-53 : Int)).toNat = 53 := by decide
    rw [k3, k4, Nat.pow_zero, Nat.mul_one, show (4503599627370496 : Nat) = 2 ^ 52 by decide, Nat.mul_assoc, Nat.mul_assoc, ← Nat.pow_add, ← Nat.pow_add]
    have hc := cE_eq
    exact congrArg (fun k => (2 * n + 1) * 2 ^ k) (by omega)
theorem ahead_n {n t : Nat} (hn : n < 65536) : aheadT (nB n) t = n * t := by
  unfold nB
  split
  · rename_i h
    subst h
    rw [aheadT_zero (by decide), Nat.zero_mul]
  · unfold aheadT
    rw [sz_ex (by omega) (by omega), WS_ex (by omega) (by omega) (by omega), roundV_down, Nat.sub_zero, Nat.mul_right_comm, Nat.mul_div_cancel _ (pow_pos2 _)]
theorem ahead_h {n t : Nat} (hn : n < 65536) : aheadT (exB (2 * n + 1) 1) t = n * t + t / 2 := by
  unfold aheadT
  have hc := cE_eq
  rw [sz_ex (by omega) (by omega), WS_ex (by omega) (by omega) (by omega), roundV_down, Nat.mul_right_comm, show 2 ^ cE = 2 * 2 ^ (cE - 1) by rw [Nat.mul_comm, ← Nat.pow_succ]; exact congrArg (fun k => 2 ^ k) (by omega), Nat.mul_div_mul_right _ _ (pow_pos2 _), Nat.add_mul, Nat.mul_assoc, Nat.one_mul]
  omega
end Go.Proofs.YtafboimlchjnaaaDoor
