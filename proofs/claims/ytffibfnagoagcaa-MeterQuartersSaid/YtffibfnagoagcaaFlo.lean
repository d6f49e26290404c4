/- Floats as whole numbers: rounding depends on the ratio alone; the float nearest to a ratio; which is greater; without any program. -/
import Derived.Test.YtffibfnagoagcaaNear
import Derived.Laws.FloatArith
namespace Go.Proofs.Ytffibfnagoagcaa

/-! Rounding. -/
theorem roundV_mul {N M k : Nat} (hk : 0 < k) (how : Nat) : roundV (N * k) (M * k) how = roundV N M how := by
  have e1 : N * k / (M * k) = N / M := Nat.mul_div_mul_right N M hk
  have e2 : N * k % (M * k) = N % M * k := Nat.mul_mod_mul_right k N M
  have hu : upB (N * k) (M * k) how = upB N M how := by
    have a1 : (0 < N % M * k) ↔ (0 < N % M) := ⟨fun h => Nat.pos_of_ne_zero (fun h0 => by rw [h0, Nat.zero_mul] at h; omega), fun h => Nat.mul_pos h hk⟩
    have a2 : (M * k < N % M * k + N % M * k) ↔ (M < N % M + N % M) := by rw [← Nat.add_mul]; exact Nat.mul_lt_mul_right hk
    have a3 : (N % M * k + N % M * k = M * k) ↔ (N % M + N % M = M) := by
      rw [← Nat.add_mul]; exact ⟨fun h => Nat.eq_of_mul_eq_mul_right hk h, fun h => by rw [h]⟩
    unfold upB
    rw [e1, e2]
    simp only [a1, a2, a3]
  unfold roundV
  rw [hu, e1]

theorem roundV_ratio {N M N' M' : Nat} (hM : 0 < M) (hM' : 0 < M') (h : N * M' = N' * M) (how : Nat) : roundV N M how = roundV N' M' how := by
  rw [← roundV_mul (N := N) (M := M) hM' how, ← roundV_mul (N := N') (M := M') hM how, h, Nat.mul_comm M M']

theorem roundV_le_succ (N M how : Nat) : roundV N M how ≤ N / M + 1 := by unfold roundV; split <;> omega

theorem roundV_mono0 {N N' M : Nat} (h : N ≤ N') (how : Nat) : roundV N M how ≤ roundV N' M how := by
  have hq : N / M ≤ N' / M := Nat.div_le_div_right h
  rcases Nat.lt_or_ge (N / M) (N' / M) with h1 | h1
  · have := roundV_le_succ N M how
    have := roundV_ge N' M how
    omega
  · have he : N / M = N' / M := by omega
    have hr : N % M ≤ N' % M := by
      have := Nat.div_add_mod N M
      have := Nat.div_add_mod N' M
      rw [he] at *
      omega
    have hu : upB N M how = true → upB N' M how = true := by
      intro hb
      unfold upB at hb ⊢
      simp only [Bool.or_eq_true, decide_eq_true_eq] at hb ⊢
      rw [← he]
      omega
    unfold roundV
    by_cases hb : upB N M how = true
    · rw [if_pos hb, if_pos (hu hb)]; omega
    · rw [if_neg hb]; split <;> omega

theorem roundV_mono {N M N' M' : Nat} (hM : 0 < M) (hM' : 0 < M') (h : N * M' ≤ N' * M) (how : Nat) : roundV N M how ≤ roundV N' M' how := by
  rw [← roundV_mul (N := N) (M := M) hM' how, ← roundV_mul (N := N') (M := M') hM how, Nat.mul_comm M' M]
  exact roundV_mono0 h how

theorem roundV_whole {t M : Nat} (hM : 0 < M) (how : Nat) : roundV (t * M) M how = t := by
  have e1 : t * M / M = t := Nat.mul_div_cancel t hM
  have e2 : t * M % M = 0 := Nat.mul_mod_left t M
  unfold roundV
  rw [upB_false (by rw [e1, e2]; omega), e1]; rfl

theorem roundV_lo {t N M : Nat} (hM : 0 < M) (h : t * M ≤ N) (how : Nat) : t ≤ roundV N M how := by
  have := roundV_mono0 (M := M) h how
  rwa [roundV_whole hM] at this
theorem roundV_hi {t N M : Nat} (hM : 0 < M) (h : N ≤ t * M) (how : Nat) : roundV N M how ≤ t := by
  have := roundV_mono0 (M := M) h how
  rwa [roundV_whole hM] at this

theorem roundV_down (N M : Nat) : roundV N M 0 = N / M := by unfold roundV; rw [upB_false (by omega)]; rfl
theorem roundV_up_le {N M c : Nat} (h : N ≤ c * M) (hM : 0 < M) : roundV N M 1 ≤ c := roundV_hi hM h 1
theorem roundV_up_ge (N M : Nat) (hM : 0 < M) : N ≤ roundV N M 1 * M := by
  have h := Nat.div_add_mod N M
  have hl := Nat.mod_lt N hM
  rcases Nat.eq_zero_or_pos (N % M) with h0 | h0
  · unfold roundV
    rw [upB_false (by omega)]
    simp only [Bool.false_eq_true, if_false]
    rw [Nat.mul_comm]; omega
  · unfold roundV
    rw [upB_true (.inl ⟨rfl, h0⟩), if_pos rfl, Nat.add_mul, Nat.mul_comm (N / M) M]; omega

/-- A ratio that lies less than a half from t is rounded to t. -/
theorem roundV_close {t N M : Nat} (hM : 0 < M) (h1 : 2 * N < 2 * (t * M) + M) (h2 : 2 * (t * M) < 2 * N + M) : roundV N M 2 = t := by
  have hd := Nat.div_add_mod N M
  have hl := Nat.mod_lt N hM
  have hq : N / M = t ∨ N / M + 1 = t := by
    have b1 : N / M ≤ t := by
      rcases Nat.lt_or_ge t (N / M) with h | h
      · have : (t + 1) * M ≤ N / M * M := Nat.mul_le_mul_right _ h
        rw [Nat.add_mul] at this
        have e : N / M * M = M * (N / M) := Nat.mul_comm _ _
        omega
      · exact h
    have b2 : t ≤ N / M + 1 := by
      rcases Nat.lt_or_ge (N / M + 1) t with h | h
      · have : (N / M + 2) * M ≤ t * M := Nat.mul_le_mul_right _ h
        rw [Nat.add_mul] at this
        have e : N / M * M = M * (N / M) := Nat.mul_comm _ _
        omega
      · exact h
    omega
  rcases hq with h | h
  · have e : t * M = M * (N / M) := by rw [h, Nat.mul_comm]
    unfold roundV
    rw [upB_false (by omega), h]; rfl
  · have e : t * M = M * (N / M) + M := by rw [← h, Nat.add_mul, Nat.mul_comm (N / M) M]; omega
    unfold roundV
    rw [upB_true (.inr ⟨rfl, by omega⟩), if_pos rfl, h]

/-- The power of the least float, as a name. -/
def cE : Nat := 1074
theorem cE_eq : cE = 1074 := rfl

/-! The float nearest to a ratio, by the place of its last bit. -/
/-- N over M, in units of 2^-1074, has 53 bits from place p on, or p is 0 and it has no more. -/
structure Nrm (N M p : Nat) : Prop where
  hi : N * 2 ^ cE < 2 ^ 53 * (M * 2 ^ p)
  lo : p = 0 ∨ 2 ^ 52 * (M * 2 ^ p) ≤ N * 2 ^ cE
def fl (N M p : Nat) : Nat := p * 4503599627370496 + roundV (N * 2 ^ cE) (M * 2 ^ p) 2

theorem pow_pos2 (p : Nat) : 0 < 2 ^ p := Nat.pow_pos (by omega)
theorem mul_pow_pos {M : Nat} (h : 0 < M) (p : Nat) : 0 < M * 2 ^ p := Nat.mul_pos h (pow_pos2 p)

theorem fl_hi {N M p : Nat} (h : Nrm N M p) (hM : 0 < M) : roundV (N * 2 ^ cE) (M * 2 ^ p) 2 ≤ 9007199254740992 := by
  refine roundV_hi (mul_pow_pos hM p) ?_ 2
  have := h.hi
  have e : (2 : Nat) ^ 53 = 9007199254740992 := by decide
  rw [e] at this
  omega
theorem fl_lo {N M p : Nat} (h : Nrm N M p) (hM : 0 < M) (hp : 0 < p) : 4503599627370496 ≤ roundV (N * 2 ^ cE) (M * 2 ^ p) 2 := by
  refine roundV_lo (mul_pow_pos hM p) ?_ 2
  have := h.lo
  have e : (2 : Nat) ^ 52 = 4503599627370496 := by decide
  rw [e] at this
  omega

theorem nrm_le {N M p N' M' p' : Nat} (h : Nrm N M p) (h' : Nrm N' M' p') (hM : 0 < M) (hle : N * M' ≤ N' * M) : p ≤ p' := by
  rcases Nat.lt_or_ge p' p with hlt | hge
  · exfalso
    have h1 := h.lo.resolve_left (by omega)
    have h2 := h'.hi
    have e : 2 ^ p = 2 ^ (p - 1 - p') * (2 * 2 ^ p') := by
      rw [show 2 * 2 ^ p' = 2 ^ (p' + 1) by rw [Nat.pow_succ, Nat.mul_comm], ← Nat.pow_add]; congr 1; omega
    have h3 : 2 * 2 ^ p' ≤ 2 ^ p := by rw [e]; exact Nat.le_mul_of_pos_left _ (pow_pos2 _)
    have h4 : 2 ^ 53 * (M' * 2 ^ p') ≤ 2 ^ 52 * (M' * 2 ^ p) := by
      have : 2 ^ 53 * (M' * 2 ^ p') = 2 ^ 52 * (M' * (2 * 2 ^ p')) := by
        rw [show (2 : Nat) ^ 53 = 2 ^ 52 * 2 by decide, Nat.mul_assoc, ← Nat.mul_assoc 2 M', Nat.mul_comm 2 M', Nat.mul_assoc M' 2]
      rw [this]
      exact Nat.mul_le_mul_left _ (Nat.mul_le_mul_left _ h3)
    have h5 : N' * 2 ^ cE < 2 ^ 52 * (M' * 2 ^ p) := Nat.lt_of_lt_of_le h2 h4
    have h6 : N' * 2 ^ cE * M < 2 ^ 52 * (M' * 2 ^ p) * M := Nat.mul_lt_mul_of_pos_right h5 hM
    have h7 : 2 ^ 52 * (M * 2 ^ p) * M' ≤ N * 2 ^ cE * M' := Nat.mul_le_mul_right _ h1
    have h8 : N * M' * 2 ^ cE ≤ N' * M * 2 ^ cE := Nat.mul_le_mul_right _ hle
    have e1 : N * 2 ^ cE * M' = N * M' * 2 ^ cE := Nat.mul_right_comm _ _ _
    have e2 : N' * 2 ^ cE * M = N' * M * 2 ^ cE := Nat.mul_right_comm _ _ _
    have e3 : 2 ^ 52 * (M * 2 ^ p) * M' = 2 ^ 52 * (M' * 2 ^ p) * M := by
      rw [Nat.mul_assoc (2 ^ 52), Nat.mul_assoc (2 ^ 52), Nat.mul_right_comm M (2 ^ p) M', Nat.mul_right_comm M' (2 ^ p) M, Nat.mul_comm M M']
    omega
  · exact hge

theorem fl_mono {N M p N' M' p' : Nat} (h : Nrm N M p) (h' : Nrm N' M' p') (hM : 0 < M) (hM' : 0 < M') (hle : N * M' ≤ N' * M) : fl N M p ≤ fl N' M' p' := by
  have hp := nrm_le h h' hM hle
  unfold fl
  rcases Nat.lt_or_ge p p' with hlt | hge
  · have h1 := fl_hi h hM
    have h2 := fl_lo h' hM' (by omega)
    omega
  · obtain rfl : p = p' := by omega
    have : roundV (N * 2 ^ cE) (M * 2 ^ p) 2 ≤ roundV (N' * 2 ^ cE) (M' * 2 ^ p) 2 := by
      refine roundV_mono (mul_pow_pos hM p) (mul_pow_pos hM' p) ?_ 2
      have e1 : N * 2 ^ cE * (M' * 2 ^ p) = N * M' * (2 ^ cE * 2 ^ p) := Nat.mul_mul_mul_comm _ _ _ _
      have e2 : N' * 2 ^ cE * (M * 2 ^ p) = N' * M * (2 ^ cE * 2 ^ p) := Nat.mul_mul_mul_comm _ _ _ _
      rw [e1, e2]
      exact Nat.mul_le_mul_right _ hle
    omega

theorem fl_same {N M p N' M' p' : Nat} (h : Nrm N M p) (h' : Nrm N' M' p') (hM : 0 < M) (hM' : 0 < M') (he : N * M' = N' * M) : fl N M p = fl N' M' p' :=
  Nat.le_antisymm (fl_mono h h' hM hM' (by omega)) (fl_mono h' h hM' hM (by omega))

/-! The bits of a float without its sign, as a number of 2^-1074. -/
def pS (s : Nat) : Nat := s / 4503599627370496 - 1
def WS (s : Nat) : Nat := manS s * 2 ^ pS s
theorem manS_pS (s : Nat) : s = pS s * 4503599627370496 + manS s := by unfold pS manS; split <;> omega
theorem manS_lt' (s : Nat) : manS s < 9007199254740992 := by unfold manS; split <;> omega
theorem manS_ge {s : Nat} (h : 0 < pS s) : 4503599627370496 ≤ manS s := by unfold manS pS at *; split <;> omega
theorem expS_pS (s : Nat) : expS s = (pS s : Int) - 1074 := by unfold expS pS; split <;> omega
theorem nrmS (s : Nat) : Nrm (WS s) (2 ^ cE) (pS s) := by
  have h1 := manS_lt' s
  refine ⟨?_, ?_⟩
  · unfold WS
    rw [Nat.mul_right_comm, Nat.mul_assoc, ← Nat.mul_assoc]
    rw [show manS s * 2 ^ cE * 2 ^ pS s = manS s * (2 ^ cE * 2 ^ pS s) from Nat.mul_assoc _ _ _]
    exact Nat.mul_lt_mul_of_pos_right (by have e : (2 : Nat) ^ 53 = 9007199254740992 := by decide
                                          omega) (Nat.mul_pos (pow_pos2 _) (pow_pos2 _))
  · rcases Nat.eq_zero_or_pos (pS s) with h0 | h0
    · exact .inl h0
    · right
      unfold WS
      rw [Nat.mul_right_comm, show manS s * 2 ^ cE * 2 ^ pS s = manS s * (2 ^ cE * 2 ^ pS s) from Nat.mul_assoc _ _ _]
      exact Nat.mul_le_mul_right _ (by have e : (2 : Nat) ^ 52 = 4503599627370496 := by decide
                                       have := manS_ge h0
                                       omega)
theorem fl_S (s : Nat) : fl (WS s) (2 ^ cE) (pS s) = s := by
  unfold fl WS
  rw [Nat.mul_right_comm, show manS s * 2 ^ cE * 2 ^ pS s = manS s * (2 ^ cE * 2 ^ pS s) from Nat.mul_assoc _ _ _, roundV_whole (Nat.mul_pos (pow_pos2 _) (pow_pos2 _))]
  exact (manS_pS s).symm
theorem WS_le {s s' : Nat} : WS s ≤ WS s' ↔ s ≤ s' := by
  have one : ∀ {a b : Nat}, WS a ≤ WS b → a ≤ b := fun {a b} h => by
    have := fl_mono (nrmS a) (nrmS b) (pow_pos2 _) (pow_pos2 _) (Nat.mul_le_mul_right _ h)
    rwa [fl_S, fl_S] at this
  refine ⟨one, fun h => ?_⟩
  rcases Nat.lt_or_ge (WS s') (WS s) with h1 | h1
  · obtain rfl : s = s' := Nat.le_antisymm h (one (by omega))
    omega
  · exact h1
theorem WS_lt {s s' : Nat} : WS s < WS s' ↔ s < s' := by
  have := WS_le (s := s') (s' := s)
  omega
theorem WS_inj {s s' : Nat} (h : WS s = WS s') : s = s' := Nat.le_antisymm (WS_le.1 (by omega)) (WS_le.1 (by omega))
theorem WS_zero : WS 0 = 0 := by unfold WS manS; rfl

/-- Rounding and floats: a ratio at most a float's number is rounded to at most that float, and the other way round. -/
theorem fl_le_S {N M p s : Nat} (h : Nrm N M p) (hM : 0 < M) (hle : N * 2 ^ cE ≤ WS s * M) : fl N M p ≤ s := by
  have := fl_mono h (nrmS s) hM (pow_pos2 _) hle
  rwa [fl_S] at this
theorem S_le_fl {N M p s : Nat} (h : Nrm N M p) (hM : 0 < M) (hle : WS s * M ≤ N * 2 ^ cE) : s ≤ fl N M p := by
  have := fl_mono (nrmS s) h (pow_pos2 _) hM hle
  rwa [fl_S] at this
theorem fl_eq_S {N M p s : Nat} (h : Nrm N M p) (hM : 0 < M) (he : N * 2 ^ cE = WS s * M) : fl N M p = s :=
  Nat.le_antisymm (fl_le_S h hM (by omega)) (S_le_fl h hM (by omega))
end Go.Proofs.Ytffibfnagoagcaa
