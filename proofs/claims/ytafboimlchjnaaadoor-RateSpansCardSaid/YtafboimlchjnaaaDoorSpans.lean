/- The law RateSpans: its walk. -/
import Derived.Test.YtafboimlchjnaaaDoorRateAll
import Derived.Test.YtafboimlchjnaaaDoorBlk
namespace Go.Proofs.YtafboimlchjnaaaDoor
open Go.RowKit
set_option maxRecDepth 100000
set_option linter.unusedVariables false

set_option maxHeartbeats 1600000 in
theorem rateSpans_bad (w : World) (T Tau s : Int)
    (HA : Hid (∀ w', Below w.heap.size w w' → Calls Tryd.prog 43 #[] w' (ValEnd w' (.bool true))))
    (H1 : Hid (∀ w, Calls Tryd.prog 49 #[.agg #[.int .i64 T, .int .i64 Tau], .int .i64 s] w (ValEnd w (.tuple #[.int .i64 0, .int .i64 1])))) :
    Calls Tryd.prog 15 #[.agg #[.int .i64 T, .int .i64 Tau], .int .i64 s] w (ValEnd w (.bool true)) := by
  go_enter Tryd.func15, Tryd.ntmps15
  go_wp2_with fail
  with_reducible refine (HA.out _ ((Below.refl _ _).alloc (Nat.le_refl _) _)).mono ?_
  rintro e w1 ⟨rfl, hb⟩
  have Kl := (BlkL.new _ [.int .i64 T, .int .i64 Tau] 57).below hb
  try simp only [World.size_alloc] at Kl
  have HB1 := Lib.hid (((Below.refl w.heap.size w).alloc (by simp <;> omega) _).trans (hb.mono (by simp <;> omega)))
  clear hb
  have cl0 := Kl.cell 0 _ rfl
  have cl1 := Kl.cell 1 _ rfl
  have zl := Kl.lt
  have HKl1 := Lib.hid Kl
  clear Kl
  go_wp2_with fail
  with_reducible refine (H1.out _).mono ?_
  rintro e w2 ⟨rfl, hb⟩
  have Kl := HKl1.out.below hb
  have HB2 := Lib.hid (HB1.out.trans (hb.mono (by have := HB1.out.size; simp <;> omega)))
  clear hb cl0 cl1 zl
  have cl0 := Kl.cell 0 _ rfl
  have cl1 := Kl.cell 1 _ rfl
  have zl := Kl.lt
  have HKl2 := Lib.hid Kl
  clear Kl
  go_wp2
  go_ret
  exact ⟨rfl, HB2.out⟩


set_option maxHeartbeats 1600000 in
theorem rateSpans_A (w : World) (T Tau s : Int) (a o : Nat) (b : Nat)
    (HA : Hid (∀ w', Below w.heap.size w w' → Calls Tryd.prog 43 #[] w' (ValEnd w' (.bool true))))
    (H1 : Hid (∀ w, Calls Tryd.prog 49 #[.agg #[.int .i64 T, .int .i64 Tau], .int .i64 s] w (ValEnd w (.tuple #[.int .i64 (a : Int), .int .i64 0]))))
    (H2 : Hid (∀ w, Calls Tryd.prog 49 #[.agg #[.int .i64 T, .int .i64 Tau], .int .i64 0] w (ValEnd w (.tuple #[.int .i64 (o : Int), .int .i64 0]))))
    (H3 : Hid (∀ w, Calls Tryd.prog 47 #[.agg #[.int .i64 T, .int .i64 Tau]] w (ValEnd w (.tuple #[.int .i64 (o : Int), .int .i64 0]))))
    (ho : ¬ a < o)
    (hT : 1 ≤ T)
    (hT2 : T ≤ 4611686018427387903)
    (hs0 : 0 ≤ s)
    (hs1 : s ≤ 4611686018427387903)
    (hs : s ≤ 4611686018427387902)
    (ha : (a : Int) ≤ 9223372036854775806)
    (H4 : Hid (∀ w, Calls Tryd.prog 49 #[.agg #[.int .i64 T, .int .i64 Tau], .int .i64 (s + 1)] w (ValEnd w (.tuple #[.int .i64 (b : Int), .int .i64 0]))))
    (hb : ¬ b < a)
    (hb2 : ¬ a + 1 < b)
    (ht : s ≤ 4611686018427387903 - T)
    (H5 : Hid (∀ w, Calls Tryd.prog 49 #[.agg #[.int .i64 T, .int .i64 Tau], .int .i64 (s + T)] w (ValEnd w (.tuple #[.int .i64 ((a : Int) + 1), .int .i64 0])))) :
    Calls Tryd.prog 15 #[.agg #[.int .i64 T, .int .i64 Tau], .int .i64 s] w (ValEnd w (.bool true)) := by
  have ha0 : (0 : Int) ≤ a := by omega
  have q1 : decide (s < 4611686018427387903) = true := decide_eq_true (by omega)
  have q2 : decide (s ≤ 4611686018427387903 - T) = true := decide_eq_true (by omega)
  go_enter Tryd.func15, Tryd.ntmps15
  go_wp2_with fail
  with_reducible refine (HA.out _ ((Below.refl _ _).alloc (Nat.le_refl _) _)).mono ?_
  rintro e w1 ⟨rfl, hb⟩
  have Kl := (BlkL.new _ [.int .i64 T, .int .i64 Tau] 57).below hb
  try simp only [World.size_alloc] at Kl
  have HB1 := Lib.hid (((Below.refl w.heap.size w).alloc (by simp <;> omega) _).trans (hb.mono (by simp <;> omega)))
  clear hb
  have cl0 := Kl.cell 0 _ rfl
  have cl1 := Kl.cell 1 _ rfl
  have zl := Kl.lt
  have HKl1 := Lib.hid Kl
  clear Kl
  go_wp2_with fail
  with_reducible refine (H1.out _).mono ?_
  rintro e w2 ⟨rfl, hb⟩
  have Kl := HKl1.out.below hb
  have HB2 := Lib.hid (HB1.out.trans (hb.mono (by have := HB1.out.size; simp <;> omega)))
  clear hb cl0 cl1 zl
  have cl0 := Kl.cell 0 _ rfl
  have cl1 := Kl.cell 1 _ rfl
  have zl := Kl.lt
  have HKl2 := Lib.hid Kl
  clear Kl
  go_wp2_with fail
  with_reducible refine (H2.out _).mono ?_
  rintro e w3 ⟨rfl, hb⟩
  have Kl := HKl2.out.below hb
  have HB3 := Lib.hid (HB2.out.trans (hb.mono (by have := HB2.out.size; simp <;> omega)))
  clear hb cl0 cl1 zl
  have cl0 := Kl.cell 0 _ rfl
  have cl1 := Kl.cell 1 _ rfl
  have zl := Kl.lt
  have HKl3 := Lib.hid Kl
  clear Kl
  go_wp2_with fail
  with_reducible refine (H3.out _).mono ?_
  rintro e w4 ⟨rfl, hb⟩
  have Kl := HKl3.out.below hb
  have HB4 := Lib.hid (HB3.out.trans (hb.mono (by have := HB3.out.size; simp <;> omega)))
  clear hb cl0 cl1 zl
  have cl0 := Kl.cell 0 _ rfl
  have cl1 := Kl.cell 1 _ rfl
  have zl := Kl.lt
  have HKl4 := Lib.hid Kl
  clear Kl
  go_wp2_with fail
  with_reducible refine (H4.out _).mono ?_
  rintro e w5 ⟨rfl, hb⟩
  have Kl := HKl4.out.below hb
  have HB5 := Lib.hid (HB4.out.trans (hb.mono (by have := HB4.out.size; simp <;> omega)))
  clear hb cl0 cl1 zl
  have cl0 := Kl.cell 0 _ rfl
  have cl1 := Kl.cell 1 _ rfl
  have zl := Kl.lt
  have HKl5 := Lib.hid Kl
  clear Kl
  go_wp2_with fail
  with_reducible refine (H5.out _).mono ?_
  rintro e w6 ⟨rfl, hb⟩
  have Kl := HKl5.out.below hb
  have HB6 := Lib.hid (HB5.out.trans (hb.mono (by have := HB5.out.size; simp <;> omega)))
  clear hb cl0 cl1 zl
  have HKl6 := Lib.hid Kl
  clear Kl
  go_wp2
  go_ret
  exact ⟨rfl, HB6.out⟩


set_option maxHeartbeats 1600000 in
theorem rateSpans_B (w : World) (T Tau s : Int) (a o : Nat) (b : Nat)
    (HA : Hid (∀ w', Below w.heap.size w w' → Calls Tryd.prog 43 #[] w' (ValEnd w' (.bool true))))
    (H1 : Hid (∀ w, Calls Tryd.prog 49 #[.agg #[.int .i64 T, .int .i64 Tau], .int .i64 s] w (ValEnd w (.tuple #[.int .i64 (a : Int), .int .i64 0]))))
    (H2 : Hid (∀ w, Calls Tryd.prog 49 #[.agg #[.int .i64 T, .int .i64 Tau], .int .i64 0] w (ValEnd w (.tuple #[.int .i64 (o : Int), .int .i64 0]))))
    (H3 : Hid (∀ w, Calls Tryd.prog 47 #[.agg #[.int .i64 T, .int .i64 Tau]] w (ValEnd w (.tuple #[.int .i64 (o : Int), .int .i64 0]))))
    (ho : ¬ a < o)
    (hT : 1 ≤ T)
    (hT2 : T ≤ 4611686018427387903)
    (hs0 : 0 ≤ s)
    (hs1 : s ≤ 4611686018427387903)
    (hs : s ≤ 4611686018427387902)
    (ha : (a : Int) ≤ 9223372036854775806)
    (H4 : Hid (∀ w, Calls Tryd.prog 49 #[.agg #[.int .i64 T, .int .i64 Tau], .int .i64 (s + 1)] w (ValEnd w (.tuple #[.int .i64 (b : Int), .int .i64 0]))))
    (hb : ¬ b < a)
    (hb2 : ¬ a + 1 < b)
    (ht : 4611686018427387903 - T < s) :
    Calls Tryd.prog 15 #[.agg #[.int .i64 T, .int .i64 Tau], .int .i64 s] w (ValEnd w (.bool true)) := by
  have ha0 : (0 : Int) ≤ a := by omega
  have q1 : decide (s < 4611686018427387903) = true := decide_eq_true (by omega)
  have q2 : decide (s ≤ 4611686018427387903 - T) = false := decide_eq_false (by omega)
  go_enter Tryd.func15, Tryd.ntmps15
  go_wp2_with fail
  with_reducible refine (HA.out _ ((Below.refl _ _).alloc (Nat.le_refl _) _)).mono ?_
  rintro e w1 ⟨rfl, hb⟩
  have Kl := (BlkL.new _ [.int .i64 T, .int .i64 Tau] 57).below hb
  try simp only [World.size_alloc] at Kl
  have HB1 := Lib.hid (((Below.refl w.heap.size w).alloc (by simp <;> omega) _).trans (hb.mono (by simp <;> omega)))
  clear hb
  have cl0 := Kl.cell 0 _ rfl
  have cl1 := Kl.cell 1 _ rfl
  have zl := Kl.lt
  have HKl1 := Lib.hid Kl
  clear Kl
  go_wp2_with fail
  with_reducible refine (H1.out _).mono ?_
  rintro e w2 ⟨rfl, hb⟩
  have Kl := HKl1.out.below hb
  have HB2 := Lib.hid (HB1.out.trans (hb.mono (by have := HB1.out.size; simp <;> omega)))
  clear hb cl0 cl1 zl
  have cl0 := Kl.cell 0 _ rfl
  have cl1 := Kl.cell 1 _ rfl
  have zl := Kl.lt
  have HKl2 := Lib.hid Kl
  clear Kl
  go_wp2_with fail
  with_reducible refine (H2.out _).mono ?_
  rintro e w3 ⟨rfl, hb⟩
  have Kl := HKl2.out.below hb
  have HB3 := Lib.hid (HB2.out.trans (hb.mono (by have := HB2.out.size; simp <;> omega)))
  clear hb cl0 cl1 zl
  have cl0 := Kl.cell 0 _ rfl
  have cl1 := Kl.cell 1 _ rfl
  have zl := Kl.lt
  have HKl3 := Lib.hid Kl
  clear Kl
  go_wp2_with fail
  with_reducible refine (H3.out _).mono ?_
  rintro e w4 ⟨rfl, hb⟩
  have Kl := HKl3.out.below hb
  have HB4 := Lib.hid (HB3.out.trans (hb.mono (by have := HB3.out.size; simp <;> omega)))
  clear hb cl0 cl1 zl
  have cl0 := Kl.cell 0 _ rfl
  have cl1 := Kl.cell 1 _ rfl
  have zl := Kl.lt
  have HKl4 := Lib.hid Kl
  clear Kl
  go_wp2_with fail
  with_reducible refine (H4.out _).mono ?_
  rintro e w5 ⟨rfl, hb⟩
  have Kl := HKl4.out.below hb
  have HB5 := Lib.hid (HB4.out.trans (hb.mono (by have := HB4.out.size; simp <;> omega)))
  clear hb cl0 cl1 zl
  have cl0 := Kl.cell 0 _ rfl
  have cl1 := Kl.cell 1 _ rfl
  have zl := Kl.lt
  have HKl5 := Lib.hid Kl
  clear Kl
  go_wp2
  go_ret
  exact ⟨rfl, HB5.out⟩


set_option maxHeartbeats 1600000 in
theorem rateSpans_C (w : World) (T Tau s : Int) (a o : Nat)
    (HA : Hid (∀ w', Below w.heap.size w w' → Calls Tryd.prog 43 #[] w' (ValEnd w' (.bool true))))
    (H1 : Hid (∀ w, Calls Tryd.prog 49 #[.agg #[.int .i64 T, .int .i64 Tau], .int .i64 s] w (ValEnd w (.tuple #[.int .i64 (a : Int), .int .i64 0]))))
    (H2 : Hid (∀ w, Calls Tryd.prog 49 #[.agg #[.int .i64 T, .int .i64 Tau], .int .i64 0] w (ValEnd w (.tuple #[.int .i64 (o : Int), .int .i64 0]))))
    (H3 : Hid (∀ w, Calls Tryd.prog 47 #[.agg #[.int .i64 T, .int .i64 Tau]] w (ValEnd w (.tuple #[.int .i64 (o : Int), .int .i64 0]))))
    (ho : ¬ a < o)
    (hT : 1 ≤ T)
    (hT2 : T ≤ 4611686018427387903)
    (hs0 : 0 ≤ s)
    (hs1 : s ≤ 4611686018427387903)
    (hs : s = 4611686018427387903)
    (ht : 4611686018427387903 - T < s) :
    Calls Tryd.prog 15 #[.agg #[.int .i64 T, .int .i64 Tau], .int .i64 s] w (ValEnd w (.bool true)) := by
  have ha0 : (0 : Int) ≤ a := by omega
  have q1 : decide (s < 4611686018427387903) = false := decide_eq_false (by omega)
  have q2 : decide (s ≤ 4611686018427387903 - T) = false := decide_eq_false (by omega)
  clear hs
  go_enter Tryd.func15, Tryd.ntmps15
  go_wp2_with fail
  with_reducible refine (HA.out _ ((Below.refl _ _).alloc (Nat.le_refl _) _)).mono ?_
  rintro e w1 ⟨rfl, hb⟩
  have Kl := (BlkL.new _ [.int .i64 T, .int .i64 Tau] 57).below hb
  try simp only [World.size_alloc] at Kl
  have HB1 := Lib.hid (((Below.refl w.heap.size w).alloc (by simp <;> omega) _).trans (hb.mono (by simp <;> omega)))
  clear hb
  have cl0 := Kl.cell 0 _ rfl
  have cl1 := Kl.cell 1 _ rfl
  have zl := Kl.lt
  have HKl1 := Lib.hid Kl
  clear Kl
  go_wp2_with fail
  with_reducible refine (H1.out _).mono ?_
  rintro e w2 ⟨rfl, hb⟩
  have Kl := HKl1.out.below hb
  have HB2 := Lib.hid (HB1.out.trans (hb.mono (by have := HB1.out.size; simp <;> omega)))
  clear hb cl0 cl1 zl
  have cl0 := Kl.cell 0 _ rfl
  have cl1 := Kl.cell 1 _ rfl
  have zl := Kl.lt
  have HKl2 := Lib.hid Kl
  clear Kl
  go_wp2_with fail
  with_reducible refine (H2.out _).mono ?_
  rintro e w3 ⟨rfl, hb⟩
  have Kl := HKl2.out.below hb
  have HB3 := Lib.hid (HB2.out.trans (hb.mono (by have := HB2.out.size; simp <;> omega)))
  clear hb cl0 cl1 zl
  have cl0 := Kl.cell 0 _ rfl
  have cl1 := Kl.cell 1 _ rfl
  have zl := Kl.lt
  have HKl3 := Lib.hid Kl
  clear Kl
  go_wp2_with fail
  with_reducible refine (H3.out _).mono ?_
  rintro e w4 ⟨rfl, hb⟩
  have Kl := HKl3.out.below hb
  have HB4 := Lib.hid (HB3.out.trans (hb.mono (by have := HB3.out.size; simp <;> omega)))
  clear hb cl0 cl1 zl
  have cl0 := Kl.cell 0 _ rfl
  have cl1 := Kl.cell 1 _ rfl
  have zl := Kl.lt
  have HKl4 := Lib.hid Kl
  clear Kl
  go_wp2
  go_ret
  exact ⟨rfl, HB4.out⟩


theorem dwithV_ok {t u s : Nat} (h1 : 1 ≤ t) (h2 : t ≤ 4611686018427387903) (h3 : u ≤ 4611686018427387903) (h4 : s ≤ 4611686018427387903) : dwithV (t : Int) (u : Int) (s : Int) = .tuple #[.int .i64 (((s + u) / t + 1 : Nat) : Int), .int .i64 0] := by
  have hc : checkV (t : Int) (u : Int) = 0 := checkV_ok (by omega) (isTick_iff.2 ⟨by omega, by omega⟩) (isTick_iff.2 ⟨by omega, by omega⟩)
  have hs : isTick (s : Int) = true := isTick_iff.2 ⟨by omega, by omega⟩
  unfold dwithV
  rw [if_neg (by rw [hc, hs]; simp)]
  rfl
theorem dwithV_bad {T Tau s : Int} (h : checkV T Tau ≠ 0 ∨ isTick s = false) : dwithV T Tau s = .tuple #[.int .i64 0, .int .i64 1] := by unfold dwithV; rw [if_pos h]
theorem div_lt_succ {x t : Nat} (h : 1 ≤ t) : (x + 1) / t ≤ x / t + 1 := by
  have := Nat.add_div_right x (show 0 < t by omega)
  have h2 : (x + 1) / t ≤ (x + t) / t := Nat.div_le_div_right (by omega)
  omega
theorem rateSpans_walk (T Tau s : Int) (w : World) (wT : (Lit.int .i64 T).wf = true) (wU : (Lit.int .i64 Tau).wf = true) (ws : (Lit.int .i64 s).wf = true) (hT : Tab w) :
    Calls Tryd.prog 15 #[.agg #[.int .i64 T, .int .i64 Tau], .int .i64 s] w (ValEnd w (.bool true)) := by
  have HA : ∀ w', Below w.heap.size w w' → Calls Tryd.prog 43 #[] w' (ValEnd w' (.bool true)) := fun w' hb => awake4_any w' (hT.below hb)
  by_cases hc : checkV T Tau = 0 ∧ isTick s = true
  · have hz := checkV_zero hc.1
    have hs := isTick_iff.1 hc.2
    obtain ⟨t, rfl⟩ : ∃ k : Nat, T = (k : Int) := ⟨T.toNat, by omega⟩
    obtain ⟨u, rfl⟩ : ∃ k : Nat, Tau = (k : Int) := ⟨Tau.toNat, by omega⟩
    obtain ⟨k, rfl⟩ : ∃ k : Nat, s = (k : Int) := ⟨s.toNat, by omega⟩
    have H1 := fun w => withinP_any w (t : Int) (u : Int) (k : Int)
    have H2 := fun w => withinP_any w (t : Int) (u : Int) ((0 : Nat) : Int)
    have H3 := fun w => onceP_any w (t : Int) (u : Int)
    rw [dwithV_ok (by omega) (by omega) (by omega) (by omega)] at H1 H2
    rw [show (0 : Int) = ((0 : Nat) : Int) from rfl, dwithV_ok (by omega) (by omega) (by omega) (by omega)] at H3
    have ho : ¬ (k + u) / t + 1 < (0 + u) / t + 1 := by
      have : (0 + u) / t ≤ (k + u) / t := Nat.div_le_div_right (by omega)
      omega
    have hal : (k + u) / t ≤ k + u := Nat.div_le_self _ _
    by_cases hk : k = 4611686018427387903
    · generalize (k + u) / t + 1 = a at *
      generalize (0 + u) / t + 1 = o at *
      exact rateSpans_C w _ _ _ a o (Lib.hid HA) (Lib.hid H1) (Lib.hid H2) (Lib.hid H3) ho (by omega) (by omega) (by omega) (by omega) (by omega) (by omega)
    · have H4 := fun w => withinP_any w (t : Int) (u : Int) ((k + 1 : Nat) : Int)
      rw [dwithV_ok (by omega) (by omega) (by omega) (by omega), Int.natCast_add] at H4
      have hb1 : (k + u) / t ≤ (k + 1 + u) / t := Nat.div_le_div_right (by omega)
      have hb2 := div_lt_succ (x := k + u) (t := t) (by omega)
      rw [show k + u + 1 = k + 1 + u by omega] at hb2
      by_cases ht : k + t ≤ 4611686018427387903
      · have H5 := fun w => withinP_any w (t : Int) (u : Int) ((k + t : Nat) : Int)
        rw [dwithV_ok (by omega) (by omega) (by omega) (by omega), Int.natCast_add, show k + t + u = k + u + t by omega, Nat.add_div_right _ (by omega)] at H5
        generalize (k + 1 + u) / t = b at *
        generalize (k + u) / t = a at *
        generalize (0 + u) / t + 1 = o at *
        exact rateSpans_A w _ _ _ (a + 1) o (b + 1) (Lib.hid HA) (Lib.hid H1) (Lib.hid H2) (Lib.hid H3) ho (by omega) (by omega) (by omega) (by omega) (by omega) (by omega) (Lib.hid H4) (by omega) (by omega) (by omega) (Lib.hid H5)
      · generalize (k + 1 + u) / t = b at *
        generalize (k + u) / t = a at *
        generalize (0 + u) / t + 1 = o at *
        exact rateSpans_B w _ _ _ (a + 1) o (b + 1) (Lib.hid HA) (Lib.hid H1) (Lib.hid H2) (Lib.hid H3) ho (by omega) (by omega) (by omega) (by omega) (by omega) (by omega) (Lib.hid H4) (by omega) (by omega) (by omega)
  · have H1 := fun w => withinP_any w T Tau s
    rw [dwithV_bad (by rcases checkV_cases T Tau with h | h <;> cases hq : isTick s <;> simp_all)] at H1
    exact rateSpans_bad w T Tau s (Lib.hid HA) (Lib.hid H1)
end Go.Proofs.YtafboimlchjnaaaDoor
