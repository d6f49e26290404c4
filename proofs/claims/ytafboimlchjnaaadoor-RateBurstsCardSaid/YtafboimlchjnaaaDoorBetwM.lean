/- Ticks lie between one another: rounded down, to the nearest, up; a greater number has no fewer. -/
import Derived.Test.YtafboimlchjnaaaDoorFcmp
import Derived.Test.YtafboimlchjnaaaDoorTicksM
namespace Go.Proofs.YtafboimlchjnaaaDoor
set_option maxRecDepth 100000

/-- Ticks by the float's number in units of 2^-1074. -/
theorem ticksN_W (b hz how : Nat) : ticksN b hz how = roundV (WS (szB b) * hz) (2 ^ cE) how := by
  unfold ticksN
  refine roundV_ratio (dnN_pos _) (pow_pos2 _) ?_ how
  unfold upN dnN WS
  rw [expS_pS]
  have hc := cE_eq
  generalize manS (szB b) = m
  rw [Nat.mul_right_comm m (2 ^ pS (szB b)) hz, Nat.mul_assoc (m * hz), Nat.mul_assoc (m * hz), ← Nat.pow_add, ← Nat.pow_add]
  refine congrArg (fun n => m * hz * 2 ^ n) ?_
  omega
theorem ticksN_mono {b c hz how : Nat} (h : szB b ≤ szB c) : ticksN b hz how ≤ ticksN c hz how := by
  rw [ticksN_W, ticksN_W]
  exact roundV_mono0 (Nat.mul_le_mul_right _ (WS_le.2 h)) how

theorem round_order {N M : Nat} (hM : 0 < M) : roundV N M 0 ≤ roundV N M 2 ∧ roundV N M 2 ≤ roundV N M 1 ∧ (roundV N M 1 = roundV N M 0 ∨ roundV N M 1 = roundV N M 0 + 1) := by
  have hl := Nat.mod_lt N hM
  rw [roundV_down]
  rcases Nat.eq_zero_or_pos (N % M) with h0 | h0
  · have e1 : roundV N M 1 = N / M := by unfold roundV; rw [upB_false (by omega)]; rfl
    have e2 : roundV N M 2 = N / M := by unfold roundV; rw [upB_false (by omega)]; rfl
    omega
  · have e1 : roundV N M 1 = N / M + 1 := by unfold roundV; rw [upB_true (.inl ⟨rfl, h0⟩)]; rfl
    have e2 := roundV_le_succ N M 2
    have e3 := roundV_ge N M 2
    omega

/-- The float a is at most b, as Go asks. -/
def leF (a b : Nat) : Bool := ordF a b == some .lt || ordF a b == some .eq

inductive Betw (b c : Nat) (d n u m : Int × Int) : Prop where
  | bad (h0 : d.1 = 0 ∧ n.1 = 0 ∧ u.1 = 0) (h1 : d.2 ≠ 0) (h2 : n.2 = d.2 ∧ u.2 = d.2)
  | ok (h0 : d.2 = 0) (h1 : (u.2 = 0 ∧ n.2 = 0 ∧ d.1 ≤ n.1 ∧ n.1 ≤ u.1 ∧ (u.1 = d.1 ∨ u.1 = d.1 + 1)) ∨ (u.2 = 5 ∧ d.1 = 4611686018427387903)) (h2 : m.2 ≠ 0 ∨ leF b c = false ∨ d.1 ≤ m.1) (h3 : 0 ≤ d.1 ∧ d.1 ≤ 4611686018427387903)

theorem fin_of {b : Nat} (h4 : kindB b ≠ 4) (ho : ticksOut b = false) : szB b < 9218868437227405312 ∧ (negB b = true → szB b = 0) := by
  have h := of_decide_eq_false ho
  have h1 := kindS_ne4 h4
  refine ⟨?_, ?_⟩
  · rcases Nat.eq_or_lt_of_le h1 with h2 | h2
    · exact absurd (kindS_3 h2) (fun h3 => h (.inl h3))
    · exact h2
  · intro hn
    rcases Nat.eq_zero_or_pos (szB b) with h2 | h2
    · exact h2
    · exfalso
      apply h
      right
      refine ⟨?_, hn⟩
      show 0 < kindS (szB b)
      unfold kindS
      rw [if_neg (by omega)]
      repeat' split
      all_goals omega

theorem leF_le {b c : Nat} (hb : b ≤ 18446744073709551615) (hc : c ≤ 18446744073709551615) (h1 : kindB b ≠ 4) (h2 : ticksOut b = false) (h3 : kindB c ≠ 4) (h4 : ticksOut c = false) (h : leF b c = true) : szB b ≤ szB c := by
  obtain ⟨b1, b2⟩ := fin_of h1 h2
  obtain ⟨c1, c2⟩ := fin_of h3 h4
  have vb : VB b = (WS (szB b) : Int) := by
    rcases hn : negB b with _ | _
    · exact VB_pos hn
    · rw [VB_neg hn, b2 hn, WS_zero]; rfl
  have vc : VB c = (WS (szB c) : Int) := by
    rcases hn : negB c with _ | _
    · exact VB_pos hn
    · rw [VB_neg hn, c2 hn, WS_zero]; rfl
  unfold leF at h
  rw [ordF_fin hb hc b1 c1, vb, vc] at h
  rw [← WS_le]
  rcases Int.lt_trichotomy (WS (szB b) : Int) (WS (szB c) : Int) with g | g | g
  · omega
  · omega
  · rw [order_gt_iff.2 g] at h
    exact absurd h (by decide)

theorem betw (b c : Nat) (hz : Int) (hb : b ≤ 18446744073709551615) (hc : c ≤ 18446744073709551615) : Betw b c (ticksV b hz 0) (ticksV b hz 2) (ticksV b hz 1) (ticksV c hz 0) := by
  rcases ha : ticksArg hz 0 with _ | _
  · have h := of_decide_eq_false ha
    have ha2 : ticksArg hz 2 = false := decide_eq_false (by omega)
    have ha1 : ticksArg hz 1 = false := decide_eq_false (by omega)
    by_cases h4 : kindB b = 4
    · rw [ticksV_nan ha h4, ticksV_nan ha1 h4, ticksV_nan ha2 h4]
      exact .bad ⟨rfl, rfl, rfl⟩ (by decide) ⟨rfl, rfl⟩
    rcases ho : ticksOut b with _ | _
    · have hr := round_order (N := WS (szB b) * hz.toNat) (M := 2 ^ cE) (pow_pos2 _)
      rw [← ticksN_W, ← ticksN_W, ← ticksN_W] at hr
      by_cases hl : ticksN b hz.toNat 0 ≤ 4611686018427387903
      · rw [ticksV_ok ha h4 ho hl]
        refine .ok rfl ?_ ?_ ⟨Int.natCast_nonneg _, by show ((ticksN b hz.toNat 0 : Nat) : Int) ≤ _; omega⟩
        · by_cases hu : ticksN b hz.toNat 1 ≤ 4611686018427387903
          · left
            rw [ticksV_ok ha1 h4 ho hu, ticksV_ok ha2 h4 ho (by show ticksN b hz.toNat 2 ≤ _; omega)]
            refine ⟨rfl, rfl, ?_, ?_, ?_⟩
            · show ((ticksN b hz.toNat 0 : Nat) : Int) ≤ ((ticksN b hz.toNat 2 : Nat) : Int); omega
            · show ((ticksN b hz.toNat 2 : Nat) : Int) ≤ ((ticksN b hz.toNat 1 : Nat) : Int); omega
            · show ((ticksN b hz.toNat 1 : Nat) : Int) = ((ticksN b hz.toNat 0 : Nat) : Int) ∨ ((ticksN b hz.toNat 1 : Nat) : Int) = ((ticksN b hz.toNat 0 : Nat) : Int) + 1
              omega
          · right
            rw [ticksV_big ha1 h4 ho hu]
            refine ⟨rfl, ?_⟩
            have hu' : ¬ ticksN b hz.toNat 1 ≤ 4611686018427387903 := hu
            show ((ticksN b hz.toNat 0 : Nat) : Int) = 4611686018427387903
            have hl' : ticksN b hz.toNat 0 ≤ 4611686018427387903 := hl
            omega
        · by_cases c4 : kindB c = 4
          · left; rw [ticksV_nan ha c4]; decide
          rcases co : ticksOut c with _ | _
          · by_cases cl : ticksN c hz.toNat 0 ≤ 4611686018427387903
            · right
              rcases hle : leF b c with _ | _
              · exact .inl rfl
              · right
                rw [ticksV_ok ha c4 co cl]
                have := ticksN_mono (hz := hz.toNat) (how := 0) (leF_le hb hc h4 ho c4 co hle)
                show ((ticksN b hz.toNat 0 : Nat) : Int) ≤ ((ticksN c hz.toNat 0 : Nat) : Int)
                omega
            · left; rw [ticksV_big ha c4 co cl]; decide
          · left; rw [ticksV_out ha c4 co]; decide
      · have hl' : ¬ ticksN b hz.toNat 0 ≤ 4611686018427387903 := hl
        rw [ticksV_big ha h4 ho hl, ticksV_big ha1 h4 ho (by show ¬ ticksN b hz.toNat 1 ≤ _; omega), ticksV_big ha2 h4 ho (by show ¬ ticksN b hz.toNat 2 ≤ _; omega)]
        exact .bad ⟨rfl, rfl, rfl⟩ (by decide) ⟨rfl, rfl⟩
    · rw [ticksV_out ha h4 ho, ticksV_out ha1 h4 ho, ticksV_out ha2 h4 ho]
      exact .bad ⟨rfl, rfl, rfl⟩ (by decide) ⟨rfl, rfl⟩
  · have h := of_decide_eq_true ha
    rw [ticksV_arg ha, ticksV_arg (show ticksArg hz 1 = true from decide_eq_true (by omega)), ticksV_arg (show ticksArg hz 2 = true from decide_eq_true (by omega))]
    exact .bad ⟨rfl, rfl, rfl⟩ (by decide) ⟨rfl, rfl⟩
end Go.Proofs.YtafboimlchjnaaaDoor
