/- Quotients: the same times above and below; over itself; a greater number above. -/
import Derived.Test.YtafboimlchjnaaaDoorMeetM
namespace Go.Proofs.YtafboimlchjnaaaDoor
set_option maxRecDepth 100000

theorem nearB_mono {N N' M : Nat} (hM : 0 < M) (hn' : N' < 2 ^ 64) (hm : M < 2 ^ 64) (h : N ≤ N') : nearB N M ≤ nearB N' M := by
  rcases Nat.eq_zero_or_pos N with rfl | h0
  · rw [nearB_zero]; omega
  · obtain ⟨P, _, _, h1, h2⟩ := nearB_ex (N := N) (M := M) h0 hM (by omega) hm
    obtain ⟨P', _, _, h3, h4⟩ := nearB_ex (N := N') (M := M) (by omega) hM hn' hm
    rw [h2, h4]
    exact fl_mono h1 h3 hM hM (Nat.mul_le_mul_right _ h)
theorem nearB_twice {N M : Nat} (hM : 0 < M) (hn : N < 2 ^ 63) (hm : M < 2 ^ 63) : nearB (2 * N) (2 * M) = nearB N M := by
  rcases Nat.eq_zero_or_pos N with rfl | h0
  · rw [Nat.mul_zero, nearB_zero, nearB_zero]
  · obtain ⟨P, _, _, h1, h2⟩ := nearB_ex (N := N) (M := M) h0 hM (by omega) (by omega)
    obtain ⟨P', _, _, h3, h4⟩ := nearB_ex (N := 2 * N) (M := 2 * M) (by omega) (by omega) (by omega) (by omega)
    rw [h2, h4]
    exact fl_same h3 h1 (by omega) hM (by rw [Nat.mul_assoc, Nat.mul_left_comm])
theorem WS_one : WS 4607182418800017408 = 2 ^ cE := by
  have h1 : manS 4607182418800017408 = 2 ^ 52 := by decide +kernel
  have h2 : 52 + pS 4607182418800017408 = cE := by decide +kernel
  unfold WS
  rw [h1, ← Nat.pow_add, h2]
theorem nearB_one_self {M : Nat} (hM : 0 < M) (hm : M < 2 ^ 64) : nearB M M = 4607182418800017408 := by
  obtain ⟨P, _, _, h1, h2⟩ := nearB_ex (N := M) (M := M) hM hM hm hm
  rw [h2]
  exact fl_eq_S h1 hM (by rw [WS_one, Nat.mul_comm])

theorem szB_turn {b : Nat} (h : b < 9223372036854775808) : szB (turnB b) = b ∧ negB (turnB b) = true := by
  unfold turnB szB negB
  rw [if_pos h]
  exact ⟨by omega, decide_eq_true (by omega)⟩

theorem ratioB_leT {a b : Int} (h1 : -9223372036854775808 ≤ a) (h2 : a ≤ 9223372036854775807) (h3 : -9223372036854775808 ≤ b) (h4 : b ≤ 9223372036854775807) (h0 : b ≠ 0) : ratioB a b ≤ 18446744073709551615 := by
  have h := nearB_le (N := a.natAbs) (M := b.natAbs) (by omega) (by omega) (by omega)
  unfold ratioB
  split
  · unfold turnB; split <;> omega
  · omega

/-- A quotient's number, by its sign and size. -/
theorem VB_ratio {a b : Int} (h1 : -9223372036854775808 ≤ a) (h2 : a ≤ 9223372036854775807) (h3 : -9223372036854775808 ≤ b) (h4 : b ≤ 9223372036854775807) (h0 : b ≠ 0) :
    szB (ratioB a b) < 9218868437227405312 ∧ ratioB a b ≤ 18446744073709551615 ∧
    VB (ratioB a b) = if decide (a < 0) = decide (b < 0) then (WS (nearB a.natAbs b.natAbs) : Int) else -(WS (nearB a.natAbs b.natAbs) : Int) := by
  have hl := nearB_le (N := a.natAbs) (M := b.natAbs) (by omega) (by omega) (by omega)
  refine ⟨?_, ratioB_leT h1 h2 h3 h4 h0, ?_⟩
  · by_cases h : a ≠ 0 ∧ decide (a < 0) ≠ decide (b < 0)
    · rw [ratioB_turn h.1 h.2, (szB_turn (by omega)).1]; omega
    · have e : ratioB a b = nearB a.natAbs b.natAbs := by unfold ratioB; rw [if_neg h]
      rw [e]
      unfold szB; omega
  · by_cases h : decide (a < 0) = decide (b < 0)
    · rw [if_pos h, ratioB_same h, VB_pos (decide_eq_false (by omega)), show szB (nearB a.natAbs b.natAbs) = _ from Nat.mod_eq_of_lt (by omega)]
    · rw [if_neg h]
      by_cases ha : a = 0
      · subst ha
        rw [ratioB_zero]
        show VB 0 = -(WS (nearB 0 b.natAbs) : Int)
        rw [nearB_zero, WS_zero]
        have : VB 0 = (WS (szB 0) : Int) := VB_pos (by decide)
        rw [this, show szB 0 = 0 from rfl, WS_zero]; rfl
      · rw [ratioB_turn ha h, VB_neg (szB_turn (by omega)).2, (szB_turn (by omega)).1]

/-- One more above: no less over a number above nought, no more over one below. -/
theorem ratio_up {a b : Int} (h1 : -9223372036854775808 ≤ a) (h2 : a < 9223372036854775807) (h3 : -9223372036854775808 ≤ b) (h4 : b ≤ 9223372036854775807) :
    (0 < b → VB (ratioB a b) ≤ VB (ratioB (a + 1) b)) ∧ (b < 0 → VB (ratioB (a + 1) b) ≤ VB (ratioB a b)) := by
  have hm : b ≠ 0 → ∀ x y : Int, -9223372036854775808 ≤ x → x ≤ 9223372036854775807 → -9223372036854775808 ≤ y → y ≤ 9223372036854775807 → x.natAbs ≤ y.natAbs → WS (nearB x.natAbs b.natAbs) ≤ WS (nearB y.natAbs b.natAbs) := fun hb x y x1 x2 y1 y2 h =>
    WS_le.2 (nearB_mono (by omega) (by omega) (by omega) h)
  constructor
  · intro hb
    rw [(VB_ratio h1 (by omega) h3 h4 (by omega)).2.2, (VB_ratio (a := a + 1) (by omega) (by omega) h3 h4 (by omega)).2.2, decide_eq_false (by omega : ¬ b < 0)]
    rcases Int.lt_or_le a 0 with ha | ha
    · rw [decide_eq_true ha, if_neg (by decide)]
      rcases Int.lt_or_le (a + 1) 0 with hc | hc
      · rw [decide_eq_true hc, if_neg (by decide)]
        have := hm (by omega) (a + 1) a (by omega) (by omega) (by omega) (by omega) (by omega)
        omega
      · rw [decide_eq_false (by omega : ¬ a + 1 < 0), if_pos rfl]
        omega
    · rw [decide_eq_false (by omega : ¬ a < 0), if_pos rfl, decide_eq_false (by omega : ¬ a + 1 < 0), if_pos rfl]
      have := hm (by omega) a (a + 1) (by omega) (by omega) (by omega) (by omega) (by omega)
      omega
  · intro hb
    rw [(VB_ratio h1 (by omega) h3 h4 (by omega)).2.2, (VB_ratio (a := a + 1) (by omega) (by omega) h3 h4 (by omega)).2.2, decide_eq_true hb]
    rcases Int.lt_or_le a 0 with ha | ha
    · rw [decide_eq_true ha, if_pos rfl]
      rcases Int.lt_or_le (a + 1) 0 with hc | hc
      · rw [decide_eq_true hc, if_pos rfl]
        have := hm (by omega) (a + 1) a (by omega) (by omega) (by omega) (by omega) (by omega)
        omega
      · rw [decide_eq_false (by omega : ¬ a + 1 < 0), if_neg (by decide)]
        omega
    · rw [decide_eq_false (by omega : ¬ a < 0), decide_eq_false (by omega : ¬ a + 1 < 0), if_neg (by decide), if_neg (by decide)]
      have := hm (by omega) a (a + 1) (by omega) (by omega) (by omega) (by omega) (by omega)
      omega

theorem ratio_same {a b : Int} (h0 : b ≠ 0) : ratioB (-a) (-b) = ratioB a b := by
  by_cases ha : a = 0
  · subst ha; rw [show -(0 : Int) = 0 from rfl, ratioB_zero, ratioB_zero]
  · by_cases h : decide (a < 0) = decide (b < 0)
    · have h' : decide (-a < 0) = decide (-b < 0) := by
        rw [decide_eq_decide] at h ⊢; omega
      rw [ratioB_same h, ratioB_same h', Int.natAbs_neg, Int.natAbs_neg]
    · have h' : decide (-a < 0) ≠ decide (-b < 0) := by
        intro h2; apply h; rw [decide_eq_decide] at h2 ⊢; omega
      rw [ratioB_turn ha h, ratioB_turn (by omega) h', Int.natAbs_neg, Int.natAbs_neg]
theorem ratio_twice {a b : Int} (h1 : -4611686018427387904 ≤ a) (h2 : a ≤ 4611686018427387903) (h3 : -4611686018427387904 ≤ b) (h4 : b ≤ 4611686018427387903) (h0 : b ≠ 0) : ratioB (2 * a) (2 * b) = ratioB a b := by
  have e1 : (2 * a).natAbs = 2 * a.natAbs := by omega
  have e2 : (2 * b).natAbs = 2 * b.natAbs := by omega
  have hn := nearB_twice (N := a.natAbs) (M := b.natAbs) (by omega) (by omega) (by omega)
  by_cases ha : a = 0
  · subst ha; rw [show 2 * (0 : Int) = 0 from rfl, ratioB_zero, ratioB_zero]
  · by_cases h : decide (a < 0) = decide (b < 0)
    · have h' : decide (2 * a < 0) = decide (2 * b < 0) := by
        rw [decide_eq_decide] at h ⊢; omega
      rw [ratioB_same h, ratioB_same h', e1, e2, hn]
    · have h' : decide (2 * a < 0) ≠ decide (2 * b < 0) := by
        intro h2; apply h; rw [decide_eq_decide] at h2 ⊢; omega
      rw [ratioB_turn ha h, ratioB_turn (by omega) h', e1, e2, hn]
theorem ratio_self {b : Int} (h3 : -9223372036854775808 ≤ b) (h4 : b ≤ 9223372036854775807) (h0 : b ≠ 0) : ratioB b b = 4607182418800017408 := by
  rw [ratioB_same rfl]
  exact nearB_one_self (by omega) (by omega)
/-- The quotient with the sign turned above is the quotient with its sign turned, but for noughts. -/
theorem ratio_neg {a b : Int} (ha : a ≠ 0) (hl : nearB a.natAbs b.natAbs < 9223372036854775808) : ratioB (-a) b = turnB (ratioB a b) := by
  by_cases h : decide (a < 0) = decide (b < 0)
  · have h' : decide (-a < 0) ≠ decide (b < 0) := by
      intro h2; rw [decide_eq_decide] at h h2; omega
    rw [ratioB_same h, ratioB_turn (by omega) h', Int.natAbs_neg]
  · have h' : decide (-a < 0) = decide (b < 0) := by
      have h3 : ¬ (a < 0 ↔ b < 0) := fun h2 => h (decide_eq_decide.2 h2)
      rw [decide_eq_decide]; omega
    rw [ratioB_turn ha h, ratioB_same h', Int.natAbs_neg]
    unfold turnB
    rw [if_pos hl, if_neg (by omega)]
    omega
end Go.Proofs.YtafboimlchjnaaaDoor
