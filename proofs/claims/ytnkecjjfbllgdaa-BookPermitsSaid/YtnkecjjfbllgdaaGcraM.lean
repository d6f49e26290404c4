/- The plain mathematics of gcra: what is left, what is granted, how long is the wait. No program. -/
namespace Go.Proofs.Ytnkecjjfbllgdaa
set_option maxRecDepth 100000

/-- The greatest tick. -/
abbrev Mx : Nat := 4611686018427387903

/-- What is left above the base B at the clock now. -/
def leftB (T Tau B now : Nat) : Nat := if Tau < B - now then 0 else min ((Tau - (B - now)) / T + 1) ((4611686018427387903 - B) / T)
/-- Left: the greatest cost that would be granted. -/
def leftV (T Tau tat now : Nat) : Nat := leftB T Tau (max tat now) now
/-- The wait for a cost that is denied. -/
def waitV (T Tau tat now n : Nat) : Nat :=
  if Tau / T + 1 < n ∨ (4611686018427387903 - max tat now) / T < n then 4611686018427387903 else max tat now + (n - 1) * T - now - Tau
/-- Is the cost granted? -/
def grB (T Tau tat now n : Nat) : Bool := decide (n ≤ leftV T Tau tat now)
/-- tat behind the cost. -/
def tatV (T Tau tat now n : Nat) : Nat := if grB T Tau tat now n = true ∧ 0 < n then max tat now + n * T else tat
def wtV (T Tau tat now n : Nat) : Nat := if grB T Tau tat now n = true then 0 else waitV T Tau tat now n

theorem leftB_le {T Tau B now : Nat} : leftB T Tau B now ≤ (4611686018427387903 - B) / T := by
  unfold leftB; split
  · exact Nat.zero_le _
  · exact Nat.min_le_right _ _
theorem leftV_le (T Tau tat now : Nat) : leftV T Tau tat now ≤ 4611686018427387903 := by
  have := leftB_le (T := T) (Tau := Tau) (B := max tat now) (now := now)
  have h2 : (4611686018427387903 - max tat now) / T ≤ 4611686018427387903 - max tat now := Nat.div_le_self _ _
  unfold leftV; omega

/-- The document's word for what is granted. -/
def Gr (T Tau B now n : Nat) : Prop := n = 0 ∨ (B + (n - 1) * T ≤ now + Tau ∧ B + n * T ≤ 4611686018427387903)

theorem Gr.iff {T Tau B now n : Nat} (hT : 1 ≤ T) (hB : B ≤ 4611686018427387903) (hn : now ≤ B) : Gr T Tau B now n ↔ n ≤ leftB T Tau B now := by
  unfold Gr leftB
  cases n with
  | zero => simp
  | succ m =>
    have e1 : m ≤ (Tau - (B - now)) / T ↔ m * T ≤ Tau - (B - now) := Nat.le_div_iff_mul_le hT
    have e2 : m + 1 ≤ (4611686018427387903 - B) / T ↔ (m + 1) * T ≤ 4611686018427387903 - B := Nat.le_div_iff_mul_le hT
    have e3 : m * T + T = (m + 1) * T := (Nat.succ_mul m T).symm
    rw [show m + 1 - 1 = m from rfl]
    generalize m * T = p at *
    generalize (m + 1) * T = r at *
    split
    · constructor
      · intro h; omega
      · intro h; omega
    · generalize (Tau - (B - now)) / T = a at *
      generalize (4611686018427387903 - B) / T = b at *
      omega

/-- With each cost all smaller ones are granted. -/
theorem gr_tat {T Tau tat now n : Nat} (hT : 1 ≤ T) (h1 : tat ≤ 4611686018427387903) (h2 : now ≤ 4611686018427387903) : grB T Tau tat now n = true ↔ Gr T Tau (max tat now) now n := by
  unfold grB leftV
  rw [Gr.iff hT (by omega) (by omega)]
  simp
theorem tatV_le {T Tau tat now n : Nat} (hT : 1 ≤ T) (h1 : tat ≤ 4611686018427387903) (h2 : now ≤ 4611686018427387903) : tatV T Tau tat now n ≤ 4611686018427387903 := by
  unfold tatV
  split
  · rename_i h
    have := (gr_tat hT h1 h2).1 h.1
    unfold Gr at this
    generalize n * T = p at *
    omega
  · exact h1
theorem mul_pred {n T : Nat} (h : 0 < n) : (n - 1) * T + T = n * T := by
  cases n with
  | zero => omega
  | succ m => rw [Nat.succ_mul]; rfl
/-- Where the wait is told, it is a tick above nought. -/
theorem waitV_of {T Tau tat now n : Nat} (hT : 1 ≤ T) (h1 : tat ≤ 4611686018427387903) (h2 : now ≤ 4611686018427387903) (hg : grB T Tau tat now n = false)
    (hw : ¬ (Tau / T + 1 < n ∨ (4611686018427387903 - max tat now) / T < n)) : 0 < n ∧ now + Tau < max tat now + (n - 1) * T ∧ max tat now + n * T ≤ 4611686018427387903 ∧ (n - 1) * T ≤ Tau ∧ now < max tat now := by
  have hng : ¬ Gr T Tau (max tat now) now n := fun h => by rw [(gr_tat hT h1 h2).2 h] at hg; cases hg
  unfold Gr at hng
  have hB : max tat now ≤ 4611686018427387903 := by omega
  have hnow : now ≤ max tat now := by omega
  generalize max tat now = B at *
  have hn : 0 < n := by omega
  have e0 := mul_pred (T := T) hn
  have e1 : n - 1 ≤ Tau / T ↔ (n - 1) * T ≤ Tau := Nat.le_div_iff_mul_le hT
  have e2 : n ≤ (4611686018427387903 - B) / T ↔ n * T ≤ 4611686018427387903 - B := Nat.le_div_iff_mul_le hT
  generalize (n - 1) * T = p at *
  generalize n * T = q at *
  generalize Tau / T = a at *
  generalize (4611686018427387903 - B) / T = b at *
  omega
theorem waitV_le {T Tau tat now n : Nat} (hT : 1 ≤ T) (h1 : tat ≤ 4611686018427387903) (h2 : now ≤ 4611686018427387903) (hg : grB T Tau tat now n = false) :
    1 ≤ waitV T Tau tat now n ∧ waitV T Tau tat now n ≤ 4611686018427387903 := by
  unfold waitV
  split
  · omega
  · rename_i h
    have := waitV_of hT h1 h2 hg h
    generalize (n - 1) * T = p at *
    generalize n * T = q at *
    generalize max tat now = B at *
    omega
theorem wtV_zero {T Tau tat now n : Nat} (hT : 1 ≤ T) (h1 : tat ≤ 4611686018427387903) (h2 : now ≤ 4611686018427387903) : grB T Tau tat now n = decide (wtV T Tau tat now n = 0) := by
  unfold wtV
  rcases hg : grB T Tau tat now n with _ | _
  · have := waitV_le hT h1 h2 hg
    rw [if_neg (by simp)]
    exact (decide_eq_false (by omega)).symm
  · rw [if_pos rfl]; rfl
theorem wtV_le {T Tau tat now n : Nat} (hT : 1 ≤ T) (h1 : tat ≤ 4611686018427387903) (h2 : now ≤ 4611686018427387903) : wtV T Tau tat now n ≤ 4611686018427387903 := by
  unfold wtV
  rcases hg : grB T Tau tat now n with _ | _
  · have := waitV_le hT h1 h2 hg
    rw [if_neg (by simp)]; exact this.2
  · rw [if_pos rfl]; omega
theorem gr_left (T Tau tat now : Nat) : grB T Tau tat now (leftV T Tau tat now) = true := by unfold grB; simp
theorem gr_more (T Tau tat now : Nat) : grB T Tau tat now (leftV T Tau tat now + 1) = false := by unfold grB; simp
theorem tatV_zero (T Tau tat now : Nat) : tatV T Tau tat now 0 = tat := by unfold tatV; rw [if_neg (by omega)]
theorem tatV_pos {T Tau tat now n : Nat} (hg : grB T Tau tat now n = true) (hn : 0 < n) : tatV T Tau tat now n = max tat now + n * T := by unfold tatV; rw [if_pos ⟨hg, hn⟩]
theorem tatV_no {T Tau tat now n : Nat} (hg : grB T Tau tat now n = false) : tatV T Tau tat now n = tat := by unfold tatV; rw [if_neg (by rw [hg]; simp)]

/-- Later the clock's base is no less, and nothing too great alone is granted. -/
theorem never {T Tau tat now t n : Nat} (ht : now ≤ t) (hw : Tau / T + 1 < n ∨ (4611686018427387903 - max tat now) / T < n) : grB T Tau tat t n = false := by
  unfold grB leftV leftB
  refine decide_eq_false ?_
  have h1 : (Tau - (max tat t - t)) / T ≤ Tau / T := Nat.div_le_div_right (by omega)
  have h2 : (4611686018427387903 - max tat t) / T ≤ (4611686018427387903 - max tat now) / T := Nat.div_le_div_right (by omega)
  generalize (Tau - (max tat t - t)) / T = a at *
  generalize (4611686018427387903 - max tat t) / T = b at *
  generalize (4611686018427387903 - max tat now) / T = c at *
  generalize Tau / T = d at *
  split
  · omega
  · omega
/-- The wait is Max just where no clock helps. -/
theorem wait_max {T Tau tat now n : Nat} (hT : 1 ≤ T) (h1 : tat ≤ 4611686018427387903) (h2 : now ≤ 4611686018427387903) (hg : grB T Tau tat now n = false)
    (hw : waitV T Tau tat now n = 4611686018427387903) : Tau / T + 1 < n ∨ (4611686018427387903 - max tat now) / T < n := by
  by_cases h : Tau / T + 1 < n ∨ (4611686018427387903 - max tat now) / T < n
  · exact h
  · have := waitV_of hT h1 h2 hg h
    have e0 := mul_pred (T := T) this.1
    unfold waitV at hw
    rw [if_neg h] at hw
    generalize (n - 1) * T = p at *
    generalize n * T = q at *
    generalize max tat now = B at *
    omega
theorem wait_exact {T Tau tat now n : Nat} (hT : 1 ≤ T) (h1 : tat ≤ 4611686018427387903) (h2 : now ≤ 4611686018427387903) (hg : grB T Tau tat now n = false)
    (hw : waitV T Tau tat now n ≠ 4611686018427387903) :
    now + waitV T Tau tat now n ≤ 4611686018427387903 ∧ grB T Tau tat (now + waitV T Tau tat now n) n = true ∧ grB T Tau tat (now + waitV T Tau tat now n - 1) n = false := by
  have hl := waitV_le hT h1 h2 hg
  have hc : ¬ (Tau / T + 1 < n ∨ (4611686018427387903 - max tat now) / T < n) := fun h => hw (by unfold waitV; rw [if_pos h])
  have ho := waitV_of hT h1 h2 hg hc
  have hv : waitV T Tau tat now n = max tat now + (n - 1) * T - now - Tau := by unfold waitV; rw [if_neg hc]
  have hb : max tat now = tat := by omega
  rw [hb] at hv ho
  have e0 := mul_pred (T := T) ho.1
  have hsum : now + waitV T Tau tat now n + Tau = tat + (n - 1) * T := by
    rw [hv]
    generalize (n - 1) * T = p at *
    generalize n * T = q at *
    omega
  generalize waitV T Tau tat now n = wv at *
  have hle : now + wv ≤ tat := by
    generalize (n - 1) * T = p at *
    generalize n * T = q at *
    omega
  have hle2 : now + wv ≤ 4611686018427387903 := by omega
  refine ⟨hle2, (gr_tat hT h1 hle2).2 ?_, ?_⟩
  · rw [show max tat (now + wv) = tat by omega]
    exact .inr ⟨by omega, ho.2.2.1⟩
  · rcases h : grB T Tau tat (now + wv - 1) n with _ | _
    · rfl
    · have hG := (gr_tat hT h1 (by omega)).1 h
      rw [show max tat (now + wv - 1) = tat by omega] at hG
      unfold Gr at hG
      generalize (n - 1) * T = p at *
      generalize n * T = q at *
      omega
/-- What is idle decides as if nothing had been granted. -/
theorem idle_left {T Tau tat t : Nat} (h : tat ≤ t) : leftV T Tau tat t = leftV T Tau 0 t := by unfold leftV; rw [show max tat t = max 0 t by omega]
theorem idle_gr {T Tau tat t n : Nat} (h : tat ≤ t) : grB T Tau tat t n = grB T Tau 0 t n := by unfold grB; rw [idle_left h]
theorem idle_wt {T Tau tat t n : Nat} (h : tat ≤ t) : wtV T Tau tat t n = wtV T Tau 0 t n := by unfold wtV waitV; rw [idle_gr h, show max tat t = max 0 t by omega]
theorem idle_tat {T Tau tat t n : Nat} (h : tat ≤ t) (hg : grB T Tau tat t n = true) (hn : 0 < n) : tatV T Tau tat t n = tatV T Tau 0 t n := by
  rw [tatV_pos hg hn, tatV_pos (by rw [← idle_gr h]; exact hg) hn, show max tat t = max 0 t by omega]
theorem leftV_idle {T Tau now : Nat} : leftV T Tau 0 now = min (Tau / T + 1) ((4611686018427387903 - now) / T) := by
  unfold leftV leftB
  rw [show max 0 now = now by omega, if_neg (by omega), show Tau - (now - now) = Tau by omega]
/-- What is left behind the cost, of the new tat. -/
theorem idle_left2 {T Tau tat t n : Nat} (h : tat ≤ t) : leftV T Tau (tatV T Tau tat t n) t = leftV T Tau (tatV T Tau 0 t n) t := by
  rcases hg : grB T Tau tat t n with _ | _
  · rw [tatV_no hg, tatV_no (by rw [← idle_gr h]; exact hg), idle_left h]
  · rcases Nat.eq_zero_or_pos n with rfl | hn
    · rw [tatV_zero, tatV_zero, idle_left h]
    · rw [idle_tat h hg hn]
/-- Two parts of a cost. -/
theorem parts {T Tau tat now a b : Nat} (hT : 1 ≤ T) (h1 : tat ≤ 4611686018427387903) (h2 : now ≤ 4611686018427387903) :
    (grB T Tau tat now (a + b) = (grB T Tau tat now a && grB T Tau (tatV T Tau tat now a) now b)) ∧
    (grB T Tau tat now (a + b) = true → tatV T Tau tat now (a + b) = tatV T Tau (tatV T Tau tat now a) now b) := by
  rcases ha : grB T Tau tat now a with _ | _
  · have : grB T Tau tat now (a + b) = false := by
      unfold grB at *
      have := of_decide_eq_false ha
      exact decide_eq_false (by omega)
    rw [this]
    exact ⟨by simp, by simp⟩
  · have hga := (gr_tat hT h1 h2).1 ha
    rcases Nat.eq_zero_or_pos a with rfl | hpa
    · rw [tatV_zero, Nat.zero_add]
      exact ⟨by simp, fun _ => rfl⟩
    · have ht := tatV_pos ha hpa
      have ht' := tatV_le (n := a) (Tau := Tau) hT h1 h2
      have e0 := mul_pred (T := T) hpa
      have hsum : (a + b) * T = a * T + b * T := Nat.add_mul _ _ _
      have hB : max (tatV T Tau tat now a) now = max tat now + a * T := by rw [ht]; omega
      rcases Nat.eq_zero_or_pos b with rfl | hpb
      · rw [tatV_zero, Nat.add_zero]
        have : grB T Tau (tatV T Tau tat now a) now 0 = true := by unfold grB; simp
        rw [this, ha]
        exact ⟨by simp, fun _ => rfl⟩
      · have e1 := mul_pred (T := T) hpb
        have e2 := mul_pred (T := T) (show 0 < a + b by omega)
        have hiff : grB T Tau tat now (a + b) = true ↔ grB T Tau (tatV T Tau tat now a) now b = true := by
          rw [gr_tat hT h1 h2, gr_tat hT ht' h2, hB]
          unfold Gr
          generalize (a + b - 1) * T = p1 at *
          generalize (a + b) * T = p2 at *
          generalize (b - 1) * T = p3 at *
          generalize b * T = p4 at *
          generalize a * T = p5 at *
          constructor
          · intro h; exact .inr (by omega)
          · intro h; exact .inr (by omega)
        refine ⟨by rw [Bool.eq_iff_iff, hiff]; simp, fun h => ?_⟩
        rw [tatV_pos h (by omega), tatV_pos (hiff.1 h) hpb, hB, hsum]; omega
end Go.Proofs.Ytnkecjjfbllgdaa
