/- The long division of two words by one, a half word at a time: its arithmetic. -/
import Derived.Test.YtafboimlchjnaaaDoorWMath
namespace Go.Proofs.YtafboimlchjnaaaDoor

/-- What holds of the trial digit q and the rest r: U and u are divided by y1 and y0, half words. -/
structure DivInv (U u y1 y0 q r : Nat) : Prop where
  eq : q * y1 + r = U
  rl : r < 4294967296
  ql : q ≤ 4294967297
  ge : (U * 4294967296 + u) / (y1 * 4294967296 + y0) ≤ q

theorem dq_mul (q y1 y0 : Nat) : q * (y1 * 4294967296 + y0) = q * y1 * 4294967296 + q * y0 := by rw [Nat.mul_add, ← Nat.mul_assoc]

theorem DivInv.start {U u y1 y0 : Nat} (hU : U < y1 * 4294967296 + y0) (hu : u < 4294967296) (h1 : 2147483648 ≤ y1) (h1' : y1 < 4294967296) (h0 : y0 < 4294967296) : DivInv U u y1 y0 (U / y1) (U % y1) := by
  have hd := Nat.div_add_mod U y1
  have hm := Nat.mod_lt U (show 0 < y1 by omega)
  refine ⟨by rw [Nat.mul_comm]; exact hd, by omega, ?_, ?_⟩
  · have : U / y1 < 4294967298 := by
      rw [Nat.div_lt_iff_lt_mul (by omega)]
      omega
    omega
  · have : (U * 4294967296 + u) / (y1 * 4294967296 + y0) < U / y1 + 1 := by
      rw [Nat.div_lt_iff_lt_mul (by omega), dq_mul]
      have e : (U / y1 + 1) * y1 = y1 * (U / y1) + y1 := by rw [Nat.add_mul, Nat.mul_comm (U / y1)]; omega
      rw [e]
      generalize y1 * (U / y1) = p at *
      generalize (U / y1 + 1) * y0 = z at *
      omega
    omega

theorem DivInv.small {U u y1 y0 q r : Nat} (h : DivInv U u y1 y0 q r) (hU : U < y1 * 4294967296 + y0) (hu : u < 4294967296)
    (ht : 4294967296 ≤ q ∨ 4294967296 * r + u < q * y0) : (U * 4294967296 + u) / (y1 * 4294967296 + y0) ≤ q - 1 ∧ 0 < q := by
  have hq : 0 < q := by
    rcases ht with h1 | h1
    · omega
    · rcases Nat.eq_zero_or_pos q with rfl | h2
      · rw [Nat.zero_mul] at h1; omega
      · exact h2
  refine ⟨?_, hq⟩
  have : (U * 4294967296 + u) / (y1 * 4294967296 + y0) < q := by
    rw [Nat.div_lt_iff_lt_mul (by omega)]
    rcases ht with h1 | h1
    · have h2 : 4294967296 * (y1 * 4294967296 + y0) ≤ q * (y1 * 4294967296 + y0) := Nat.mul_le_mul_right _ h1
      have h3 := hU
      generalize q * (y1 * 4294967296 + y0) = z at *
      omega
    · rw [dq_mul]
      have := h.eq
      generalize q * y1 = p at *
      generalize q * y0 = z at *
      omega
  omega

theorem DivInv.next {U u y1 y0 q r : Nat} (h : DivInv U u y1 y0 q r) (hU : U < y1 * 4294967296 + y0) (hu : u < 4294967296)
    (ht : 4294967296 ≤ q ∨ 4294967296 * r + u < q * y0) (hr : r + y1 < 4294967296) : DivInv U u y1 y0 (q - 1) (r + y1) := by
  obtain ⟨h1, h2⟩ := h.small hU hu ht
  refine ⟨?_, hr, by have := h.ql; omega, h1⟩
  have := h.eq
  have e : q * y1 = (q - 1) * y1 + y1 := by
    obtain ⟨k, rfl⟩ : ∃ k, q = k + 1 := ⟨q - 1, by omega⟩
    rw [Nat.add_mul]; simp
  omega

theorem DivInv.brk {U u y1 y0 q r : Nat} (h : DivInv U u y1 y0 q r) (hU : U < y1 * 4294967296 + y0) (hu : u < 4294967296) (h0 : y0 < 4294967296)
    (ht : 4294967296 ≤ q ∨ 4294967296 * r + u < q * y0) (hr : 4294967296 ≤ r + y1) : (U * 4294967296 + u) / (y1 * 4294967296 + y0) = q - 1 := by
  obtain ⟨h1, h2⟩ := h.small hU hu ht
  refine Nat.le_antisymm h1 ?_
  rw [Nat.le_div_iff_mul_le (by omega), dq_mul]
  have e : q * y1 = (q - 1) * y1 + y1 := by
    obtain ⟨k, rfl⟩ : ∃ k, q = k + 1 := ⟨q - 1, by omega⟩
    rw [Nat.add_mul]; simp
  have h3 : (q - 1) * y0 ≤ 4294967296 * y0 := Nat.mul_le_mul_right _ (by have := h.ql; omega)
  have h4 := h.eq
  rw [e] at h4
  generalize (q - 1) * y1 = p at *
  generalize (q - 1) * y0 = z at *
  omega

theorem DivInv.done {U u y1 y0 q r : Nat} (h : DivInv U u y1 y0 q r) (hy : 0 < y1) (ht : q * y0 ≤ 4294967296 * r + u) : (U * 4294967296 + u) / (y1 * 4294967296 + y0) = q := by
  refine Nat.le_antisymm h.ge ?_
  rw [Nat.le_div_iff_mul_le (by omega), dq_mul]
  have h4 := h.eq
  generalize q * y1 = p at *
  generalize q * y0 = z at *
  omega

/-- A digit of the quotient is below the base. -/
theorem digit_lt {U u Y : Nat} (hU : U < Y) (hu : u < 4294967296) : (U * 4294967296 + u) / Y < 4294967296 := by
  rw [Nat.div_lt_iff_lt_mul (by omega)]
  omega
theorem rest_eq {U u Y q : Nat} (h : (U * 4294967296 + u) / Y = q) : q * Y + (U * 4294967296 + u) % Y = U * 4294967296 + u := by
  have := Nat.div_add_mod (U * 4294967296 + u) Y
  rw [h, Nat.mul_comm] at this
  exact this

/-- Two digits make the quotient. -/
theorem two_digits {U u1 u0 Y q1 q0 R : Nat} (hY : 0 < Y) (h1 : (U * 4294967296 + u1) / Y = q1) (hR : (U * 4294967296 + u1) % Y = R) (h0 : (R * 4294967296 + u0) / Y = q0) :
    (U * 18446744073709551616 + (u1 * 4294967296 + u0)) / Y = q1 * 4294967296 + q0 ∧ (U * 18446744073709551616 + (u1 * 4294967296 + u0)) % Y = (R * 4294967296 + u0) % Y := by
  have e1 := rest_eq h1
  rw [hR] at e1
  have e : U * 18446744073709551616 + (u1 * 4294967296 + u0) = R * 4294967296 + u0 + Y * (q1 * 4294967296) := by
    rw [← Nat.mul_assoc, Nat.mul_comm Y q1]
    generalize q1 * Y = z at *
    omega
  rw [e, Nat.add_mul_div_left _ _ hY, Nat.add_mul_mod_self_left, h0]
  exact ⟨Nat.add_comm _ _, rfl⟩
end Go.Proofs.YtafboimlchjnaaaDoor
