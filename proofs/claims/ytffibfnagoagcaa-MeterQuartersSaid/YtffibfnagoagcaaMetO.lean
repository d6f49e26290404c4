/- Floats against nought and one. -/
import Derived.Test.YtffibfnagoagcaaMetF
import Derived.Test.YtffibfnagoagcaaOrdP
namespace Go.Proofs.Ytffibfnagoagcaa
open Go.RowKit Ieee
set_option maxRecDepth 100000

theorem read_infs {b : Nat} (hb : b ≤ 18446744073709551615) (hs : szB b = 9218868437227405312) : Ieee.double.read b = .infinity (negB b) := by
  have e0 : (b / 9223372036854775808 % 2 == 1) = negB b := by
    unfold negB
    by_cases h : 9223372036854775808 ≤ b
    · rw [decide_eq_true h, beq_iff_eq]; omega
    · rw [decide_eq_false h, beq_eq_false_iff_ne]; omega
  unfold Ieee.Format.read
  rw [dbl_sign, dbl_bin, dbl_inf, dbl_least, e0]
  have e : b % 9223372036854775808 = 9218868437227405312 := hs
  simp [e]

theorem ordF_inf_fin {a b : Nat} (ha0 : a ≤ 18446744073709551615) (ha : szB a = 9218868437227405312) (hb : b ≤ 18446744073709551615) (hb' : szB b < 9218868437227405312) : ordF a b = some (if negB a then .lt else .gt) := by
  unfold ordF Ieee.Format.order
  rw [read_infs ha0 ha, read_fin hb hb']
  rfl

def le0B (b : Nat) : Bool := decide (szB b = 0) || negB b

def lt0B (b : Nat) : Bool := !decide (szB b = 0) && negB b

theorem ord_nought {b : Nat} (hb : b ≤ 18446744073709551615) (hn : nanB b = false) :
    (le0B b = true ∧ lt0B b = false ∧ ordF b 0 = some .eq) ∨ (le0B b = true ∧ lt0B b = true ∧ ordF b 0 = some .lt) ∨ (le0B b = false ∧ lt0B b = false ∧ ordF b 0 = some .gt) := by
  have hle := of_decide_eq_false hn
  have v0 : VB 0 = 0 := by
    have : VB 0 = (WS (szB 0) : Int) := VB_pos (by decide)
    rw [this, show szB 0 = 0 from rfl, WS_zero]; rfl
  unfold le0B lt0B
  rcases Nat.lt_or_ge (szB b) 9218868437227405312 with h | h
  · rw [ordF_fin hb (by omega) h (by decide), v0]
    by_cases h0 : szB b = 0
    · left
      rw [decide_eq_true h0]
      have : VB b = 0 := by
        rcases hg : negB b with _ | _
        · rw [VB_pos hg, h0, WS_zero]; rfl
        · rw [VB_neg hg, h0, WS_zero]; rfl
      rw [this, order_eq_iff.2 rfl]
      exact ⟨rfl, rfl, rfl⟩
    · right
      rw [decide_eq_false h0]
      have hw := (WS_lt (s := 0) (s' := szB b)).2 (by omega)
      rw [WS_zero] at hw
      rcases hg : negB b with _ | _
      · right
        rw [VB_pos hg, order_gt_iff.2 (by omega)]
        exact ⟨rfl, rfl, rfl⟩
      · left
        rw [VB_neg hg, order_lt_iff.2 (by omega)]
        exact ⟨rfl, rfl, rfl⟩
  · right
    rw [ordF_inf_fin hb (by omega) (by omega) (by decide), decide_eq_false (by omega)]
    rcases hg : negB b with _ | _
    · right; exact ⟨rfl, rfl, rfl⟩
    · left; exact ⟨rfl, rfl, rfl⟩

theorem ord_one {b : Nat} (hb : b ≤ 18446744073709551615) (hn : nanB b = false) (h0 : le0B b = false) :
    (4607182418800017408 < b ∧ FloatKind.f64.format.order b 4607182418800017408 = some .gt) ∨ (b = 4607182418800017408 ∧ FloatKind.f64.format.order b 4607182418800017408 = some .eq) ∨ (b < 4607182418800017408 ∧ FloatKind.f64.format.order b 4607182418800017408 = some .lt) := by
  have hle := of_decide_eq_false hn
  unfold le0B at h0
  rw [Bool.or_eq_false_iff] at h0
  have hng := of_decide_eq_false h0.2
  have hz : szB b = b := Nat.mod_eq_of_lt (by omega)
  rw [hz] at hle
  rcases Nat.lt_or_ge b 9218868437227405312 with h | h
  · have ho : FloatKind.f64.format.order b 4607182418800017408 = some (compare (b : Int) (4607182418800017408 : Nat)) := ordF_pos h (by omega)
    rw [ho]
    rcases Nat.lt_trichotomy b 4607182418800017408 with h1 | h1 | h1
    · exact .inr (.inr ⟨h1, by rw [order_lt_iff.2 (by omega)]⟩)
    · exact .inr (.inl ⟨h1, by rw [order_eq_iff.2 (by omega)]⟩)
    · exact .inl ⟨h1, by rw [order_gt_iff.2 (by omega)]⟩
  · left
    refine ⟨by omega, ?_⟩
    have ho := ordF_inf_fin hb (by rw [hz]; omega) (b := 4607182418800017408) (by omega) (by decide)
    rw [h0.2] at ho
    exact ho
theorem kind4 (b : Nat) : (kindB b = 4) ↔ nanB b = true := by
  unfold kindB kindS nanB
  rw [decide_eq_true_iff]
  split <;> (try omega)
  split <;> (try omega)
  split <;> (try omega)
  split <;> omega
theorem kind0 (b : Nat) : (kindB b = 0) ↔ szB b = 0 := by
  unfold kindB kindS
  split <;> (try omega)
  split <;> (try omega)
  split <;> (try omega)
  split <;> omega
/-- Floats that are one but for the NaNs are the same. -/
theorem same_can {a b : Nat} (h : canB a = canB b) : sameB a b = true := by
  rcases ha : nanB a with _ | _
  · rcases hb : nanB b with _ | _
    · rw [can_fin ha, can_fin hb] at h
      subst h; exact sameB_refl _
    · have := nan_can a
      rw [h, nan_can, hb, ha] at this; cases this
  · have := nan_can a
    rw [h, nan_can, ha] at this
    exact sameB_nan ((kind4 a).2 ha) ((kind4 b).2 this)
end Go.Proofs.Ytffibfnagoagcaa
