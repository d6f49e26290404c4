/- The document's Of, whatever the rate; the law RateOfs: its walk. -/
import Derived.Test.YtafboimlchjnaaaDoorDocOf
namespace Go.Proofs.YtafboimlchjnaaaDoor
open Go.RowKit
set_option maxRecDepth 100000

theorem kindB_4 {b : Nat} : kindB b = 4 ↔ 9218868437227405312 < szB b := by
  unfold kindB kindS; split
  · omega
  · split
    · omega
    · split
      · omega
      · split <;> omega
theorem kindB_3 {b : Nat} : kindB b = 3 ↔ szB b = 9218868437227405312 := by
  unfold kindB kindS; split
  · omega
  · split
    · omega
    · split
      · omega
      · split <;> omega
theorem kindB_0 {b : Nat} : kindB b = 0 ↔ szB b = 0 := by
  unfold kindB kindS; split
  · omega
  · split
    · omega
    · split
      · omega
      · split <;> omega
theorem nanB_kind (b : Nat) : nanB b = decide (kindB b = 4) := by unfold nanB; exact decide_eq_decide.2 kindB_4.symm
theorem sz_neg {b : Nat} (hb : b ≤ 18446744073709551615) (h : negB b = false) : szB b = b := by
  unfold negB at h
  have := of_decide_eq_false h
  unfold szB
  exact Nat.mod_eq_of_lt (by omega)
theorem gap_doc {p h : Nat} (hw : 0 < manS (szB p)) : roundV (h * dnN (expS (szB p))) (upN (manS (szB p)) (expS (szB p))) 1 = gapT p h := by
  unfold gapT
  refine roundV_ratio (Nat.mul_pos hw (Nat.pow_pos (by omega))) (by unfold WS; exact Nat.mul_pos hw (pow_pos2 _)) ?_ 1
  unfold dnN WS
  rw [expS_pS]
  have hc := cE_eq
  generalize manS (szB p) = m
  rw [Nat.mul_mul_mul_comm h _ m (2 ^ pS (szB p)), Nat.mul_mul_mul_comm h (2 ^ cE) m _, ← Nat.pow_add, ← Nat.pow_add]
  refine congrArg (fun n => h * m * 2 ^ n) ?_
  omega
theorem ahead_doc (b T : Nat) : roundV (T * upN (manS (szB b)) (expS (szB b))) (dnN (expS (szB b))) 0 = aheadT b T := by
  rw [aheadT_ticks]
  unfold ticksN upN
  rw [← Nat.mul_assoc, Nat.mul_comm T]
theorem manS_pos {s : Nat} (h : 0 < s) (h2 : s < 9218868437227405312) : 0 < manS s := by unfold manS; split <;> omega
theorem gapT_pos {p h : Nat} (hh : 1 ≤ h) (hw : 0 < manS (szB p)) : 1 ≤ gapT p h := by
  unfold gapT
  rcases Nat.eq_zero_or_pos (roundV (h * 2 ^ cE) (WS (szB p)) 1) with hz | hz
  · have h1 := (up_le (N := h * 2 ^ cE) (M := WS (szB p)) (c := 0) (by unfold WS; exact Nat.mul_pos hw (pow_pos2 _))).1 (by omega)
    have := Nat.mul_pos hh (pow_pos2 cE)
    omega
  · exact hz

theorem docof_any (w : World) (p b : Nat) (hz : Int) (hp : p ≤ 18446744073709551615) (hb : b ≤ 18446744073709551615) :
    Calls Tryd.prog 42 #[.agg #[.float .f64 p, .float .f64 b, .int .i64 hz]] w (LimE w (ofV p b hz).1 (ofV p b hz).2.1 (ofV p b hz).2.2) := by
  have HK := Lib.hid (fun w c (hc : c = p ∨ c = b) => (kind3_any w c (by rcases hc with rfl | rfl <;> assumption)).mono (R' := fun e w' => e = .returned (.int .i64 (kindB c : Int)) ∧ w' = w) fun _ _ ⟨he, hw⟩ => ⟨he, hw.symm⟩)
  have HMp := Lib.hid (fun w => minus3_any w p hp)
  have HMb := Lib.hid (fun w => minus3_any w b hb)
  have HNp := Lib.hid (fun w => number3_any w p hp)
  have HNb := Lib.hid (fun w => number3_any w b hb)
  have bq : ∀ (x c : Nat), (((x : Nat) : Int) == (c : Int)) = decide (x = c) := fun x c => by
    rw [Bool.eq_iff_iff]; simp only [beq_iff_eq, decide_eq_true_eq]; omega
  by_cases hh : hzB hz = false
  · have hv : ofV p b hz = (0, 0, 1) := by
      have : toldV p b hz = 1 := by unfold toldV; rw [if_pos hh]
      unfold ofV; rw [this, if_pos (by decide)]
    rw [hv]
    have := of_decide_eq_false hh
    by_cases h1 : hz < 1
    · exact docof_t1 w p b hz HK (decide_eq_true h1)
    · exact docof_t2 w p b hz HK (decide_eq_false h1) (decide_eq_true (by omega))
  · have hh' := of_decide_eq_true (by simpa [hzB] using hh : decide (1 ≤ hz ∧ hz ≤ 1000000000) = true)
    have t1 : decide (hz < 1) = false := decide_eq_false (by omega)
    have t2 : decide (1000000000 < hz) = false := decide_eq_false (by omega)
    by_cases hn : nanB p = true ∨ nanB b = true
    · have hv : ofV p b hz = (0, 0, 4) := by
        have : toldV p b hz = 4 := by unfold toldV; rw [if_neg hh, if_pos hn]
        unfold ofV; rw [this, if_pos (by decide)]
      rw [hv]
      rw [nanB_kind, nanB_kind, decide_eq_true_eq, decide_eq_true_eq] at hn
      by_cases h4 : kindB p = 4
      · exact docof_n1 w p b hz HK t1 t2 (by rw [show (4 : Int) = ((4 : Nat) : Int) from rfl, bq, decide_eq_true h4])
      · exact docof_n2 w p b hz HK t1 t2 (by rw [show (4 : Int) = ((4 : Nat) : Int) from rfl, bq, decide_eq_false h4]) (by rw [show (4 : Int) = ((4 : Nat) : Int) from rfl, bq, decide_eq_true (by rcases hn with h | h; exact absurd h h4; exact h)])
    · have n4p : kindB p ≠ 4 := fun h => hn (.inl (by rw [nanB_kind, decide_eq_true h]))
      have n4b : kindB b ≠ 4 := fun h => hn (.inr (by rw [nanB_kind, decide_eq_true h]))
      have q4p : ((kindB p : Int) == 4) = false := by rw [show (4 : Int) = ((4 : Nat) : Int) from rfl, bq, decide_eq_false n4p]
      have q4b : ((kindB b : Int) == 4) = false := by rw [show (4 : Int) = ((4 : Nat) : Int) from rfl, bq, decide_eq_false n4b]
      have hr5 : (le0B p = true ∨ infB p = true ∨ lt0B b = true ∨ infB b = true) → ofV p b hz = (0, 0, 5) := fun hr => by
        have : toldV p b hz = 5 := by unfold toldV; rw [if_neg hh, if_neg hn, if_pos hr]
        unfold ofV; rw [this, if_pos (by decide)]
      by_cases h3p : kindB p = 3
      · have hr : le0B p = true ∨ infB p = true ∨ lt0B b = true ∨ infB b = true := by
          rcases hg : negB p with _ | _
          · refine .inr (.inl ?_)
            have h1 := kindB_3.1 h3p
            rw [sz_neg hp hg] at h1
            unfold infB; exact decide_eq_true h1
          · exact .inl (by unfold le0B; rw [hg, Bool.or_true])
        rw [hr5 hr]
        exact docof_r1 w p b hz HK t1 t2 q4p q4b (by rw [show (3 : Int) = ((3 : Nat) : Int) from rfl, bq, decide_eq_true h3p])
      · have q3p : ((kindB p : Int) == 3) = false := by rw [show (3 : Int) = ((3 : Nat) : Int) from rfl, bq, decide_eq_false h3p]
        by_cases h0p : kindB p = 0
        · rw [hr5 (.inl (by unfold le0B; rw [decide_eq_true (kindB_0.1 h0p), Bool.true_or]))]
          exact docof_r2 w p b hz HK t1 t2 q4p q4b q3p (by rw [show (0 : Int) = ((0 : Nat) : Int) from rfl, bq, decide_eq_true h0p])
        · have q0p : ((kindB p : Int) == 0) = false := by rw [show (0 : Int) = ((0 : Nat) : Int) from rfl, bq, decide_eq_false h0p]
          rcases hnp : negB p with _ | _
          · rw [hnp] at HMp
            by_cases h3b : kindB b = 3
            · have hr : le0B p = true ∨ infB p = true ∨ lt0B b = true ∨ infB b = true := by
                have h1 := kindB_3.1 h3b
                rcases hg : negB b with _ | _
                · refine .inr (.inr (.inr ?_))
                  rw [sz_neg hb hg] at h1
                  unfold infB; exact decide_eq_true h1
                · exact .inr (.inr (.inl (by unfold lt0B; rw [hg, decide_eq_false (by omega)]; rfl)))
              rw [hr5 hr]
              exact docof_r4 w p b hz HK t1 t2 q4p q4b q3p q0p HMp (by rw [show (3 : Int) = ((3 : Nat) : Int) from rfl, bq, decide_eq_true h3b])
            · have q3b : ((kindB b : Int) == 3) = false := by rw [show (3 : Int) = ((3 : Nat) : Int) from rfl, bq, decide_eq_false h3b]
              have sp0 : 0 < szB p := Nat.pos_of_ne_zero fun h => h0p (kindB_0.2 h)
              have spl : szB p < 9218868437227405312 := by
                have a1 : ¬ 9218868437227405312 < szB p := fun h => n4p (kindB_4.2 h)
                have a2 : ¬ szB p = 9218868437227405312 := fun h => h3p (kindB_3.2 h)
                omega
              have sbl : szB b < 9218868437227405312 := by
                have a1 : ¬ 9218868437227405312 < szB b := fun h => n4b (kindB_4.2 h)
                have a2 : ¬ szB b = 9218868437227405312 := fun h => h3b (kindB_3.2 h)
                omega
              have np : le0B p = false := by unfold le0B; rw [hnp, decide_eq_false (by omega)]; rfl
              have ip : infB p = false := by unfold infB; refine decide_eq_false fun h => ?_; have := sz_neg hp hnp; omega
              have main : (lt0B b = false) → (∀ (o : Bool), True) → ofV p b hz = if capB (gapT p hz.toNat) = false then ((0, 0, 5) : Int × Int × Int) else if capB (aheadT b (gapT p hz.toNat)) = false then ((0, 0, 5) : Int × Int × Int) else ((((gapT p hz.toNat : Nat) : Int), ((aheadT b (gapT p hz.toNat) : Nat) : Int), (0 : Int)) : Int × Int × Int) := fun hl _ => by
                have ib : infB b = false := by
                  unfold infB; refine decide_eq_false fun h => ?_
                  subst h
                  have : szB 9218868437227405312 = 9218868437227405312 := by decide
                  omega
                have : toldV p b hz = 0 := by
                  unfold toldV
                  rw [if_neg hh, if_neg hn, if_neg (by rw [np, ip, hl, ib]; simp)]
                unfold ofV
                rw [this, if_neg (by decide)]
              obtain ⟨h, rfl⟩ : ∃ h : Nat, hz = (h : Int) := ⟨hz.toNat, by omega⟩
              rw [Int.toNat_natCast] at main
              have hm := manS_pos sp0 spl
              have e1 := gap_doc (p := p) (h := h) hm
              have g1 := gapT_pos (p := p) (h := h) (by omega) hm
              have e2 := ahead_doc b (gapT p h)
              have ml := manS_lt (szB p)
              have el := expS_bd (szB_lt p)
              have ml2 := manS_lt (szB b)
              have el2 := expS_bd (szB_lt b)
              by_cases hg : 0 < kindB b
              · have qg : decide (0 < kindB b) = true := decide_eq_true hg
                have sb0 : szB b ≠ 0 := fun h => by have := kindB_0.2 h; omega
                rcases hnb : negB b with _ | _
                · rw [hnb] at HMb
                  rw [main (by unfold lt0B; rw [hnb, Bool.and_false]) fun _ => trivial]
                  by_cases hc1 : gapT p h ≤ 4611686018427387903
                  · rw [if_neg (by unfold capB; rw [decide_eq_true hc1]; decide)]
                    by_cases hc2 : aheadT b (gapT p h) ≤ 4611686018427387903
                    · rw [if_neg (by unfold capB; rw [decide_eq_true hc2]; decide)]
                      exact docof_ok1 w p b h _ _ _ _ _ _ HK t1 t2 q4p q4b q3p q0p HMp q3b qg HMb (by omega) HNp ml hm el e1 g1 hc1 HNb ml2 el2 e2 hc2
                    · rw [if_pos (by unfold capB; rw [decide_eq_false hc2])]
                      exact docof_no21 w p b h _ _ _ _ _ HK t1 t2 q4p q4b q3p q0p HMp q3b qg HMb (by omega) HNp ml hm el e1 g1 hc1 HNb ml2 el2 (by rw [e2]; exact hc2)
                  · rw [if_pos (by unfold capB; rw [decide_eq_false hc1])]
                    exact docof_no11 w p b h _ _ HK t1 t2 q4p q4b q3p q0p HMp q3b qg HMb (by omega) HNp ml hm el (by rw [e1]; exact hc1)
                · rw [hnb] at HMb
                  rw [hr5 (.inr (.inr (.inl (by unfold lt0B; rw [hnb, decide_eq_false sb0]; rfl))))]
                  exact docof_r5 w p b h HK t1 t2 q4p q4b q3p q0p HMp q3b qg HMb
              · have qg : decide (0 < kindB b) = false := decide_eq_false hg
                have sb0 : szB b = 0 := kindB_0.1 (by omega)
                rw [main (by unfold lt0B; rw [decide_eq_true sb0]; rfl) fun _ => trivial]
                by_cases hc1 : gapT p h ≤ 4611686018427387903
                · rw [if_neg (by unfold capB; rw [decide_eq_true hc1]; decide)]
                  by_cases hc2 : aheadT b (gapT p h) ≤ 4611686018427387903
                  · rw [if_neg (by unfold capB; rw [decide_eq_true hc2]; decide)]
                    exact docof_ok0 w p b h _ _ _ _ _ _ HK t1 t2 q4p q4b q3p q0p HMp q3b qg (by omega) HNp ml hm el e1 g1 hc1 HNb ml2 el2 e2 hc2
                  · rw [if_pos (by unfold capB; rw [decide_eq_false hc2])]
                    exact docof_no20 w p b h _ _ _ _ _ HK t1 t2 q4p q4b q3p q0p HMp q3b qg (by omega) HNp ml hm el e1 g1 hc1 HNb ml2 el2 (by rw [e2]; exact hc2)
                · rw [if_pos (by unfold capB; rw [decide_eq_false hc1])]
                  exact docof_no10 w p b h _ _ HK t1 t2 q4p q4b q3p q0p HMp q3b qg (by omega) HNp ml hm el (by rw [e1]; exact hc1)
          · rw [hnp] at HMp
            rw [hr5 (.inl (by unfold le0B; rw [hnp, Bool.or_true]))]
            exact docof_r3 w p b hz HK t1 t2 q4p q4b q3p q0p HMp
end Go.Proofs.YtafboimlchjnaaaDoor
