/- The plain mathematics of gcra, further: the wait by halving; asks one behind the other; what they add up to. No program. -/
import Derived.Test.YtnkecjjfbllgdaaGcraM
namespace Go.Proofs.Ytnkecjjfbllgdaa
set_option maxRecDepth 100000

theorem wait_none {T Tau tat now n : Nat} (hT : 1 ≤ T) (h1 : tat ≤ 4611686018427387903) (h2 : now ≤ 4611686018427387903) (hg : grB T Tau tat (max now tat) n = false) :
    waitV T Tau tat now n = 4611686018427387903 := by
  unfold waitV
  rw [if_pos]
  have hng : ¬ Gr T Tau (max tat (max now tat)) (max now tat) n := fun h => by rw [(gr_tat hT h1 (by omega)).2 h] at hg; cases hg
  rw [show max tat (max now tat) = max tat now by omega] at hng
  unfold Gr at hng
  have hB : max tat now ≤ 4611686018427387903 := by omega
  rw [show max now tat = max tat now by omega] at hng
  generalize max tat now = B at *
  have hn : 0 < n := by omega
  have e1 : n - 1 ≤ Tau / T ↔ (n - 1) * T ≤ Tau := Nat.le_div_iff_mul_le hT
  have e2 : n ≤ (4611686018427387903 - B) / T ↔ n * T ≤ 4611686018427387903 - B := Nat.le_div_iff_mul_le hT
  generalize (n - 1) * T = p at *
  generalize n * T = q at *
  generalize Tau / T = a at *
  generalize (4611686018427387903 - B) / T = b at *
  omega
theorem wait_some {T Tau tat now n : Nat} (hT : 1 ≤ T) (h1 : tat ≤ 4611686018427387903) (h2 : now ≤ 4611686018427387903) (hg : grB T Tau tat (max now tat) n = true) (hd : grB T Tau tat now n = false) :
    waitV T Tau tat now n ≤ max now tat - now ∧ ∀ w, w ≤ max now tat - now → grB T Tau tat (now + w) n = decide (waitV T Tau tat now n ≤ w) := by
  have hG := (gr_tat hT h1 (by omega)).1 hg
  rw [show max tat (max now tat) = max tat now by omega] at hG
  have hnD : ¬ Gr T Tau (max tat now) now n := fun h => by rw [(gr_tat hT h1 h2).2 h] at hd; cases hd
  have hG' := hG
  have hn : 0 < n := by
    rcases Nat.eq_zero_or_pos n with h | h
    · exact absurd (Or.inl h) hnD
    · exact h
  unfold Gr at hG hnD
  have e1 : n - 1 ≤ Tau / T ↔ (n - 1) * T ≤ Tau := Nat.le_div_iff_mul_le hT
  have e2 : n ≤ (4611686018427387903 - max tat now) / T ↔ n * T ≤ 4611686018427387903 - max tat now := Nat.le_div_iff_mul_le hT
  have hv : waitV T Tau tat now n = max tat now + (n - 1) * T - now - Tau := by
    unfold waitV
    rw [if_neg]
    rw [show max now tat = max tat now by omega] at hG
    generalize max tat now = B at *
    generalize (n - 1) * T = p at *
    generalize n * T = q at *
    generalize Tau / T = a at *
    generalize (4611686018427387903 - B) / T = b at *
    omega
  refine ⟨?_, fun w hw => ?_⟩
  · rw [hv]
    rw [show max now tat = max tat now by omega] at hG ⊢
    generalize (n - 1) * T = p at *
    generalize n * T = q at *
    omega
  · rw [Bool.eq_iff_iff, gr_tat hT h1 (by omega), show max tat (now + w) = max tat now by omega, hv]
    unfold Gr
    rw [show max now tat = max tat now by omega] at hG hw
    generalize (n - 1) * T = p at *
    generalize n * T = q at *
    generalize max tat now = B at *
    simp only [decide_eq_true_eq]
    omega

/-- tat behind a list of asks. -/
def tatAt (T Tau tat : Nat) (l : List (Nat × Nat)) : Nat := l.foldl (fun t a => tatV T Tau t a.1 a.2) tat
theorem tatAt_nil (T Tau tat : Nat) : tatAt T Tau tat [] = tat := rfl
theorem tatAt_snoc (T Tau tat : Nat) (l : List (Nat × Nat)) (a : Nat × Nat) : tatAt T Tau tat (l ++ [a]) = tatV T Tau (tatAt T Tau tat l) a.1 a.2 := by
  unfold tatAt; rw [List.foldl_append]; rfl
theorem tatAt_le {T Tau : Nat} (hT : 1 ≤ T) : ∀ (l : List (Nat × Nat)) (tat : Nat), tat ≤ 4611686018427387903 → (∀ a ∈ l, a.1 ≤ 4611686018427387903) → tatAt T Tau tat l ≤ 4611686018427387903
  | [], _, h, _ => h
  | a :: l, tat, h, hl => tatAt_le hT l (tatV T Tau tat a.1 a.2) (tatV_le hT h (hl a (by simp))) fun b hb => hl b (by simp [hb])

/-- The rate bound's step: what was granted within from .. to has moved tat at least so far. -/
def BdOk (T frm : Nat) (S at_ : Nat) : Prop := S = 0 ∨ frm + S * T ≤ at_
theorem BdOk.stay {T frm S a b : Nat} (h : BdOk T frm S a) (hab : a ≤ b) : BdOk T frm S b := by
  rcases h with h | h
  · exact .inl h
  · exact .inr (by omega)
theorem BdOk.step {T Tau frm to S at_ now n : Nat} (hT : 1 ≤ T) (ha : at_ ≤ 4611686018427387903) (hn : now ≤ 4611686018427387903) (h : BdOk T frm S at_) (hg : grB T Tau at_ now n = true)
    (h1 : frm ≤ now) (h2 : now ≤ to) : S + n ≤ (to - frm + Tau) / T + 1 ∨ n = 0 := by
  rcases Nat.eq_zero_or_pos n with hz | hp
  · exact .inr hz
  · have hG := (gr_tat hT ha hn).1 hg
    have e0 := mul_pred (T := T) hp
    have hm : S + n - 1 ≤ (to - frm + Tau) / T ↔ (S + n - 1) * T ≤ to - frm + Tau := Nat.le_div_iff_mul_le hT
    have e1 : (S + n - 1) * T = S * T + (n - 1) * T := by rw [show S + n - 1 = S + (n - 1) by omega, Nat.add_mul]
    have hS : S = 0 → S * T = 0 := fun h => by rw [h, Nat.zero_mul]
    unfold BdOk at h
    unfold Gr at hG
    rw [e1] at hm
    generalize (n - 1) * T = p at *
    generalize n * T = q at *
    generalize S * T = r at *
    generalize (to - frm + Tau) / T = d at *
    have : S + n - 1 ≤ d := hm.2 (by omega)
    exact .inl (by omega)
theorem BdOk.next {T Tau frm S at_ now n : Nat} (h : BdOk T frm S at_) (hg : grB T Tau at_ now n = true) (h1 : frm ≤ now) : BdOk T frm (S + n) (tatV T Tau at_ now n) := by
  rcases Nat.eq_zero_or_pos n with rfl | hp
  · rw [tatV_zero]; exact h
  · rw [tatV_pos hg hp]
    have e : (S + n) * T = S * T + n * T := Nat.add_mul _ _ _
    have hS : S = 0 → S * T = 0 := fun h => by rw [h, Nat.zero_mul]
    unfold BdOk at *
    right
    rw [e]
    generalize n * T = q at *
    generalize S * T = r at *
    omega
theorem tat_mono (T Tau tat now n : Nat) : tat ≤ tatV T Tau tat now n := by
  unfold tatV; split
  · generalize n * T = q; omega
  · exact Nat.le_refl _
theorem gr_once {T Tau tat now n : Nat} (hg : grB T Tau tat now n = true) : n ≤ Tau / T + 1 := by
  unfold grB leftV leftB at hg
  have := of_decide_eq_true hg
  have h1 : (Tau - (max tat now - now)) / T ≤ Tau / T := Nat.div_le_div_right (by omega)
  generalize (Tau - (max tat now - now)) / T = a at *
  generalize (4611686018427387903 - max tat now) / T = c at *
  generalize Tau / T = d at *
  split at this <;> omega
end Go.Proofs.Ytnkecjjfbllgdaa
