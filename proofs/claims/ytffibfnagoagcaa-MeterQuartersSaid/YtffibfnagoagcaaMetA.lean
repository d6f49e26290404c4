/- Contracts: isFinite, missed, the document's finite and lost; the least and the most of floats with one NaN. -/
import Derived.Test.YtffibfnagoagcaaMetD
namespace Go.Proofs.Ytffibfnagoagcaa
open Go.RowKit Ieee
set_option maxRecDepth 100000
set_option linter.unusedVariables false

theorem ord_inf_gt {b : Nat} (h : szB b = 9218868437227405312) : FloatKind.f64.format.order (szB b) 9218868437227405311 = some .gt := by
  have ho := ordF_inf_fin (a := szB b) (b := 9218868437227405311) (by omega) (by rw [szB_szB]; exact h) (by omega) (by decide)
  have : negB (szB b) = false := by unfold negB; exact decide_eq_false (by have := szB_lt b; omega)
  rw [this] at ho
  exact ho
theorem isInf0_inf (w : World) (b : Nat) (hb : b ≤ 18446744073709551615) (h : szB b = 9218868437227405312) : Calls Try.prog 59 #[.float .f64 b, .int .i64 0] w fun e w' => e = .returned (.bool true) ∧ w = w' := by
  have HA := Lib.hid (abs_any w b hb)
  have E2 := ord_inf_gt h
  go_enter Try.func59, Try.ntmps59
  go_wp2_with fail
  refine HA.out.mono ?_
  rintro e w1 ⟨rfl, rfl⟩
  go_wp2
  go_ret
  exact ⟨rfl, rfl⟩
theorem isInf0_nan (w : World) (b : Nat) (hb : b ≤ 18446744073709551615) (h : nanB b = true) : Calls Try.prog 59 #[.float .f64 b, .int .i64 0] w fun e w' => e = .returned (.bool false) ∧ w = w' := by
  have HA := Lib.hid (abs_any w b hb)
  have h2 := of_decide_eq_true h
  have E2 : FloatKind.f64.format.order (szB b) 9218868437227405311 = none := ordF_nan (by rw [szB_szB]; exact h2)
  go_enter Try.func59, Try.ntmps59
  go_wp2_with fail
  refine HA.out.mono ?_
  rintro e w1 ⟨rfl, rfl⟩
  go_wp2
  go_ret
  exact ⟨rfl, rfl⟩
def fnB (b : Nat) : Bool := decide (szB b < 9218868437227405312)
theorem isFin_any (w : World) (b : Nat) (hb : b ≤ 18446744073709551615) : Calls Try.prog 37 #[.float .f64 b] w fun e w' => e = .returned (.bool (fnB b)) ∧ w = w' := by
  have HN := isNaN_any w b hb
  rcases Nat.lt_trichotomy (szB b) 9218868437227405312 with h | h | h
  · have hf : fnB b = true := decide_eq_true h
    have hn : nanB b = false := decide_eq_false (by omega)
    have HI := isInf0_fin w b hb h
    rw [hn] at HN
    rw [hf]
    go_enter Try.func37, Try.ntmps37
    go_wp2_with fail
    with_reducible refine HI.mono ?_
    rintro e w1 ⟨rfl, rfl⟩
    go_wp2_with fail
    with_reducible refine HN.mono ?_
    rintro e w1 ⟨rfl, rfl⟩
    go_wp2
    go_ret
    exact ⟨rfl, rfl⟩
  · have hf : fnB b = false := decide_eq_false (by omega)
    have HI := isInf0_inf w b hb h
    rw [hf]
    go_enter Try.func37, Try.ntmps37
    go_wp2_with fail
    with_reducible refine HI.mono ?_
    rintro e w1 ⟨rfl, rfl⟩
    go_wp2
    go_ret
    exact ⟨rfl, rfl⟩
  · have hf : fnB b = false := decide_eq_false (by omega)
    have hn : nanB b = true := decide_eq_true h
    have HI := isInf0_nan w b hb hn
    rw [hn] at HN
    rw [hf]
    go_enter Try.func37, Try.ntmps37
    go_wp2_with fail
    with_reducible refine HI.mono ?_
    rintro e w1 ⟨rfl, rfl⟩
    go_wp2_with fail
    with_reducible refine HN.mono ?_
    rintro e w1 ⟨rfl, rfl⟩
    go_wp2
    go_ret
    exact ⟨rfl, rfl⟩
theorem kind_lt3 (b : Nat) : decide (((kindB b : Nat) : Int) < 3) = fnB b := by
  have h : ((kindB b : Nat) : Int) < 3 ↔ szB b < 9218868437227405312 := by
    unfold kindB kindS
    split <;> (try omega)
    split <;> (try omega)
    split <;> (try omega)
    split <;> omega
  unfold fnB
  exact decide_eq_decide.2 h
theorem fin8_any (w : World) (b : Nat) (hb : b ≤ 18446744073709551615) : Calls Try.prog 43 #[.float .f64 b] w fun e w' => e = .returned (.bool (fnB b)) ∧ w = w' := by
  have HK := kind3_any w b hb
  have hd := kind_lt3 b
  rcases h : fnB b with _ | _
  all_goals
    rw [h] at hd
    go_enter Try.func43, Try.ntmps43
    go_wp2_with fail
    with_reducible refine HK.mono ?_
    rintro e w1 ⟨rfl, rfl⟩
    go_wp2
    go_ret
    exact ⟨rfl, rfl⟩

def geA (a b : Nat) : Bool := !nanB a && !nanB b && decide (szB b ≤ szB a)
theorem geA_can (a b : Nat) : geA (canB a) (canB b) = geA a b := by
  unfold geA
  rw [nan_can, nan_can]
  rcases ha : nanB a with _ | _
  · rcases hb : nanB b with _ | _
    · rw [can_fin ha, can_fin hb]
    · rfl
  · rfl
theorem ord_fin_inf {a b : Nat} (ha : a ≤ 18446744073709551615) (ha' : szB a < 9218868437227405312) (hb0 : b ≤ 18446744073709551615) (hb : szB b = 9218868437227405312) : ordF a b = some (if negB b then .gt else .lt) := by
  unfold ordF Ieee.Format.order
  rw [read_infs hb0 hb, read_fin ha ha']
  rfl
theorem ord_abs (a b : Nat) : (geA a b = true ∧ FloatKind.f64.format.order (szB a) (szB b) = some .gt) ∨ (geA a b = true ∧ FloatKind.f64.format.order (szB a) (szB b) = some .eq) ∨ (geA a b = false ∧ FloatKind.f64.format.order (szB a) (szB b) = some .lt) ∨ (geA a b = false ∧ FloatKind.f64.format.order (szB a) (szB b) = none) := by
  have la := szB_lt a
  have lb := szB_lt b
  rcases ha : nanB a with _ | _
  · rcases hb : nanB b with _ | _
    · have h1 := of_decide_eq_false ha
      have h2 := of_decide_eq_false hb
      have g : geA a b = decide (szB b ≤ szB a) := by unfold geA; rw [ha, hb]; rfl
      rw [g]
      have na : negB (szB a) = false := decide_eq_false (by omega)
      have nb : negB (szB b) = false := decide_eq_false (by omega)
      rcases Nat.lt_or_ge (szB a) 9218868437227405312 with fa | fa
      · rcases Nat.lt_or_ge (szB b) 9218868437227405312 with fb | fb
        · have ho : FloatKind.f64.format.order (szB a) (szB b) = some (compare ((szB a : Nat) : Int) ((szB b : Nat) : Int)) := ordF_pos fa fb
          rw [ho]
          rcases Nat.lt_trichotomy (szB a) (szB b) with q | q | q
          · exact .inr (.inr (.inl ⟨decide_eq_false (by omega), by rw [order_lt_iff.2 (by omega)]⟩))
          · exact .inr (.inl ⟨decide_eq_true (by omega), by rw [order_eq_iff.2 (by omega)]⟩)
          · exact .inl ⟨decide_eq_true (by omega), by rw [order_gt_iff.2 (by omega)]⟩
        · have ho := ord_fin_inf (a := szB a) (b := szB b) (by omega) (by rw [szB_szB]; exact fa) (by omega) (by rw [szB_szB]; omega)
          rw [nb] at ho
          exact .inr (.inr (.inl ⟨decide_eq_false (by omega), ho⟩))
      · rcases Nat.lt_or_ge (szB b) 9218868437227405312 with fb | fb
        · have ho := ordF_inf_fin (a := szB a) (b := szB b) (by omega) (by rw [szB_szB]; omega) (by omega) (by rw [szB_szB]; exact fb)
          rw [na] at ho
          exact .inl ⟨decide_eq_true (by omega), ho⟩
        · have e : szB b = szB a := by omega
          rw [e]
          exact .inr (.inl ⟨decide_eq_true (by omega), ordF_inf (by rw [szB_szB]; omega)⟩)
    · have h2 := of_decide_eq_true hb
      exact .inr (.inr (.inr ⟨by unfold geA; rw [hb]; simp, ordF_nan' (by rw [szB_szB]; exact h2)⟩))
  · have h2 := of_decide_eq_true ha
    exact .inr (.inr (.inr ⟨by unfold geA; rw [ha]; simp, ordF_nan (by rw [szB_szB]; exact h2)⟩))
/-- What a sum loses, with one NaN. -/
def missC (a b s : Nat) : Nat := if geA a b then fop .add (fop .sub a s) b else fop .add (fop .sub b s) a
def FD (w : World) (c : Nat) (e : Ending) (w' : World) : Prop := ∃ v, e = .returned (.float .f64 v) ∧ v ≤ 18446744073709551615 ∧ canB v = c ∧ ∃ k, w' = w.drewN k

theorem missed_any (w : World) (a b s : Nat) (ha : a ≤ 18446744073709551615) (hb : b ≤ 18446744073709551615) (hs : s ≤ 18446744073709551615) :
    Calls Try.prog 38 #[.float .f64 a, .float .f64 b, .float .f64 s] w (FD w (missC (canB a) (canB b) (canB s))) := by
  have HA := abs_any w a ha
  have HB := abs_any w b hb
  have F := fun op h x y w => run_fV Try.prog (op := op) h 27 x y w
  have F1 := F .sub rfl
  have F2 := F .add rfl
  clear F
  unfold missC
  rw [geA_can]
  rcases ord_abs a b with ⟨g, h⟩ | ⟨g, h⟩ | ⟨g, h⟩ | ⟨g, h⟩
  all_goals
    rw [g]
    go_enter Try.func38, Try.ntmps38
    go_wp2_with fail
    with_reducible refine HA.mono ?_
    rintro e w1 ⟨rfl, rfl⟩
    go_wp2_with fail
    with_reducible refine HB.mono ?_
    rintro e w1 ⟨rfl, rfl⟩
    go_wp2
    go_ret
    exact ⟨_, rfl, fV_le _ _ _ _, by rw [can_fV, can_fV], _, rfl⟩

theorem lost_any (w : World) (a b s : Nat) (ha : a ≤ 18446744073709551615) (hb : b ≤ 18446744073709551615) (hs : s ≤ 18446744073709551615) :
    Calls Try.prog 44 #[.float .f64 a, .float .f64 b, .float .f64 s] w (FD w (missC (canB a) (canB b) (canB s))) := by
  have HA := abs_any w a ha
  have HB := abs_any w b hb
  have F := fun op h x y w => run_fV Try.prog (op := op) h 27 x y w
  have F1 := F .sub rfl
  have F2 := F .add rfl
  clear F
  unfold missC
  rw [geA_can]
  rcases ord_abs a b with ⟨g, h⟩ | ⟨g, h⟩ | ⟨g, h⟩ | ⟨g, h⟩
  all_goals
    rw [g]
    go_enter Try.func44, Try.ntmps44
    go_wp2_with fail
    with_reducible refine HA.mono ?_
    rintro e w1 ⟨rfl, rfl⟩
    go_wp2_with fail
    with_reducible refine HB.mono ?_
    rintro e w1 ⟨rfl, rfl⟩
    go_wp2
    go_ret
    exact ⟨_, rfl, fV_le _ _ _ _, by rw [can_fV, can_fV], _, rfl⟩

theorem idx_can (a : Nat) : idxB (canB a) = idxB a := by
  rcases h : nanB a with _ | _
  · rw [can_fin h]
  · rw [can_nan h, idxB_nan ((kind4 a).2 h), idxB_nan ((kind4 _).2 nan_nanV)]
theorem ordB_can (a b : Nat) : ordB (canB a) (canB b) = ordB a b := by unfold ordB; rw [idx_can, idx_can]
theorem least_can (a b : Nat) : canB (leastB a b) = canB (leastB (canB a) (canB b)) := by
  unfold leastB
  rw [ordB_can]
  split <;> rw [can_can]
theorem kind_can (a : Nat) : (kindB (canB a) = 4) ↔ (kindB a = 4) := by rw [kind4, kind4, nan_can]
theorem most_can (a b : Nat) : canB (mostB a b) = canB (mostB (canB a) (canB b)) := by
  unfold mostB
  rw [ordB_can]
  simp only [kind_can]
  split
  · rw [can_can]
  · split
    · rw [can_can]
    · split <;> rw [can_can]
theorem can_same {a b : Nat} (ha : a ≤ 18446744073709551615) (hb : b ≤ 18446744073709551615) (h : sameB a b = true) : canB a = canB b := by
  unfold sameB at h
  have h := eq_of_beq h
  rcases na : nanB a with _ | _
  · have ka : kindB a ≠ 4 := fun e => by rw [(kind4 a).1 e] at na; cases na
    have sa := of_decide_eq_false na
    rcases nb : nanB b with _ | _
    · have kb : kindB b ≠ 4 := fun e => by rw [(kind4 b).1 e] at nb; cases nb
      have sb := of_decide_eq_false nb
      rw [can_fin na, can_fin nb]
      rcases ga : negB a with _ | _
      · have qa := of_decide_eq_false ga
        rw [idxB_pos ka ga] at h
        rcases gb : negB b with _ | _
        · have qb := of_decide_eq_false gb
          rw [idxB_pos kb gb] at h
          unfold szB at h
          omega
        · rw [idxB_neg kb gb] at h
          omega
      · have qa := of_decide_eq_true ga
        rw [idxB_neg ka ga] at h
        rcases gb : negB b with _ | _
        · rw [idxB_pos kb gb] at h
          omega
        · have qb := of_decide_eq_true gb
          rw [idxB_neg kb gb] at h
          unfold szB at h sa sb
          omega
    · exfalso
      rw [idxB_nan ((kind4 b).2 nb)] at h
      rcases ga : negB a with _ | _
      · rw [idxB_pos ka ga] at h; omega
      · rw [idxB_neg ka ga] at h; omega
  · rcases nb : nanB b with _ | _
    · exfalso
      have kb : kindB b ≠ 4 := fun e => by rw [(kind4 b).1 e] at nb; cases nb
      have sb := of_decide_eq_false nb
      rw [idxB_nan ((kind4 a).2 na)] at h
      rcases gb : negB b with _ | _
      · rw [idxB_pos kb gb] at h; omega
      · rw [idxB_neg kb gb] at h; omega
    · rw [can_nan na, can_nan nb]
theorem leastP_can (a b : Nat) (ha : a ≤ 18446744073709551615) (hb : b ≤ 18446744073709551615) : ∃ r, r ≤ 18446744073709551615 ∧ canB r = canB (leastB (canB a) (canB b)) ∧ ∀ w, Calls Try.prog 39 #[.float .f64 a, .float .f64 b] w fun e w' => e = .returned (.float .f64 r) ∧ w = w' := by
  obtain ⟨r, h1, h2, h3⟩ := leastP_all a b ha hb
  refine ⟨r, h1, ?_, h3⟩
  rw [← least_can]
  exact can_same h1 (by unfold leastB; split <;> assumption) h2
theorem mostP_can (a b : Nat) (ha : a ≤ 18446744073709551615) (hb : b ≤ 18446744073709551615) : ∃ r, r ≤ 18446744073709551615 ∧ canB r = canB (mostB (canB a) (canB b)) ∧ ∀ w, Calls Try.prog 40 #[.float .f64 a, .float .f64 b] w fun e w' => e = .returned (.float .f64 r) ∧ w = w' := by
  obtain ⟨r, h1, h2, h3⟩ := mostP_all a b ha hb
  refine ⟨r, h1, ?_, h3⟩
  rw [← most_can]
  refine can_same h1 ?_ h2
  unfold mostB
  split
  · exact hb
  · split
    · exact ha
    · split <;> assumption
end Go.Proofs.Ytffibfnagoagcaa
