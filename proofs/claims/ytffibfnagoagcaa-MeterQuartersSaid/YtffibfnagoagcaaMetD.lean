/- Contracts: DocSmooth; Smooth and DocSmooth, whatever the floats. -/
import Derived.Test.YtffibfnagoagcaaMetS
namespace Go.Proofs.Ytffibfnagoagcaa
open Go.RowKit
set_option maxRecDepth 100000
set_option linter.unusedVariables false

theorem nan8_any (w : World) (b : Nat) (hb : b ≤ 18446744073709551615) : Calls Try.prog 42 #[.float .f64 b] w fun e w' => e = .returned (.bool (nanB b)) ∧ w = w' := by
  have HK := kind3_any w b hb
  rcases h : nanB b with _ | _
  · have hk : ¬ ((kindB b : Nat) : Int) = 4 := fun e => by have := (kind4 b).1 (by omega); rw [h] at this; cases this
    have hk2 : (((kindB b : Nat) : Int) == 4) = false := by simpa using hk
    go_enter Try.func42, Try.ntmps42
    go_wp2_with fail
    with_reducible refine HK.mono ?_
    rintro e w1 ⟨rfl, rfl⟩
    go_wp2
    go_ret
    exact ⟨rfl, rfl⟩
  · have hk : ((kindB b : Nat) : Int) = 4 := by have := (kind4 b).2 h; omega
    rw [hk] at HK
    go_enter Try.func42, Try.ntmps42
    go_wp2_with fail
    with_reducible refine HK.mono ?_
    rintro e w1 ⟨rfl, rfl⟩
    go_wp2
    go_ret
    exact ⟨rfl, rfl⟩

theorem dsmooth_1 (w : World) (l x a : Nat) (hl : l ≤ 18446744073709551615) (hx : x ≤ 18446744073709551615) (ha : a ≤ 18446744073709551615)
    (na : nanB a = true) :
    Calls Try.prog 28 #[.float .f64 l, .float .f64 x, .float .f64 a] w (FE w 0 4) := by
  have NA := nan8_any w a ha
  have NX := nan8_any w x hx
  have NL := nan8_any w l hl
  have NG := minus3_any w a ha
  have NK := kind3_any w a ha
  rw [na] at *
  go_enter Try.func28, Try.ntmps28
  go_wp2_with fail
  with_reducible refine (NA).mono ?_
  rintro e w1 ⟨rfl, rfl⟩
  go_wp2
  go_ret2
  exact ⟨_, rfl, by omega, by first | rfl | decide, Below.refl _ _⟩


theorem dsmooth_2a (w : World) (l x a : Nat) (hl : l ≤ 18446744073709551615) (hx : x ≤ 18446744073709551615) (ha : a ≤ 18446744073709551615)
    (na : nanB a = false)
    (hk0 : ((kindB a : Nat) : Int) = 0) :
    Calls Try.prog 28 #[.float .f64 l, .float .f64 x, .float .f64 a] w (FE w 0 5) := by
  have NA := nan8_any w a ha
  have NX := nan8_any w x hx
  have NL := nan8_any w l hl
  have NG := minus3_any w a ha
  have NK := kind3_any w a ha
  rw [na] at *
  rw [hk0] at NK
  go_enter Try.func28, Try.ntmps28
  go_wp2_with fail
  with_reducible refine (NA).mono ?_
  rintro e w1 ⟨rfl, rfl⟩
  go_wp2_with fail
  with_reducible refine (NK).mono ?_
  rintro e w1 ⟨rfl, rfl⟩
  go_wp2
  go_ret2
  exact ⟨_, rfl, by omega, by first | rfl | decide, Below.refl _ _⟩


theorem dsmooth_2b (w : World) (l x a : Nat) (hl : l ≤ 18446744073709551615) (hx : x ≤ 18446744073709551615) (ha : a ≤ 18446744073709551615)
    (na : nanB a = false)
    (hkn : ¬ ((kindB a : Nat) : Int) = 0)
    (ng : negB a = true) :
    Calls Try.prog 28 #[.float .f64 l, .float .f64 x, .float .f64 a] w (FE w 0 5) := by
  have NA := nan8_any w a ha
  have NX := nan8_any w x hx
  have NL := nan8_any w l hl
  have NG := minus3_any w a ha
  have NK := kind3_any w a ha
  rw [na, ng] at *
  go_enter Try.func28, Try.ntmps28
  go_wp2_with fail
  with_reducible refine (NA).mono ?_
  rintro e w1 ⟨rfl, rfl⟩
  go_wp2_with fail
  with_reducible refine (NK).mono ?_
  rintro e w1 ⟨rfl, rfl⟩
  go_wp2_with fail
  with_reducible refine (NG).mono ?_
  rintro e w1 ⟨rfl, rfl⟩
  go_wp2
  go_ret2
  exact ⟨_, rfl, by omega, by first | rfl | decide, Below.refl _ _⟩


theorem dsmooth_3 (w : World) (l x a : Nat) (hl : l ≤ 18446744073709551615) (hx : x ≤ 18446744073709551615) (ha : a ≤ 18446744073709551615)
    (na : nanB a = false)
    (hkn : ¬ ((kindB a : Nat) : Int) = 0)
    (ng : negB a = false)
    (h1 : FloatKind.f64.format.order a 4607182418800017408 = some .gt) :
    Calls Try.prog 28 #[.float .f64 l, .float .f64 x, .float .f64 a] w (FE w 0 5) := by
  have NA := nan8_any w a ha
  have NX := nan8_any w x hx
  have NL := nan8_any w l hl
  have NG := minus3_any w a ha
  have NK := kind3_any w a ha
  rw [na, ng] at *
  go_enter Try.func28, Try.ntmps28
  go_wp2_with fail
  with_reducible refine (NA).mono ?_
  rintro e w1 ⟨rfl, rfl⟩
  go_wp2_with fail
  with_reducible refine (NK).mono ?_
  rintro e w1 ⟨rfl, rfl⟩
  go_wp2_with fail
  with_reducible refine (NG).mono ?_
  rintro e w1 ⟨rfl, rfl⟩
  go_wp2
  go_ret2
  exact ⟨_, rfl, by omega, by first | rfl | decide, Below.refl _ _⟩


theorem dsmooth_4eq (w : World) (l x a : Nat) (hl : l ≤ 18446744073709551615) (hx : x ≤ 18446744073709551615) (ha : a ≤ 18446744073709551615)
    (na : nanB a = false)
    (hkn : ¬ ((kindB a : Nat) : Int) = 0)
    (ng : negB a = false)
    (h1 : FloatKind.f64.format.order a 4607182418800017408 = some .eq)
    (nx : nanB x = true) :
    Calls Try.prog 28 #[.float .f64 l, .float .f64 x, .float .f64 a] w (FE w (canB l) 0) := by
  have NA := nan8_any w a ha
  have NX := nan8_any w x hx
  have NL := nan8_any w l hl
  have NG := minus3_any w a ha
  have NK := kind3_any w a ha
  rw [na, nx, ng] at *
  go_enter Try.func28, Try.ntmps28
  go_wp2_with fail
  with_reducible refine (NA).mono ?_
  rintro e w1 ⟨rfl, rfl⟩
  go_wp2_with fail
  with_reducible refine (NK).mono ?_
  rintro e w1 ⟨rfl, rfl⟩
  go_wp2_with fail
  with_reducible refine (NG).mono ?_
  rintro e w1 ⟨rfl, rfl⟩
  go_wp2_with fail
  with_reducible refine (NX).mono ?_
  rintro e w1 ⟨rfl, rfl⟩
  go_wp2
  go_ret2
  exact ⟨_, rfl, hl, by first | rfl | decide, Below.refl _ _⟩


theorem dsmooth_5eq (w : World) (l x a : Nat) (hl : l ≤ 18446744073709551615) (hx : x ≤ 18446744073709551615) (ha : a ≤ 18446744073709551615)
    (na : nanB a = false)
    (hkn : ¬ ((kindB a : Nat) : Int) = 0)
    (ng : negB a = false)
    (h1 : FloatKind.f64.format.order a 4607182418800017408 = some .eq)
    (nx : nanB x = false)
    (nl : nanB l = true) :
    Calls Try.prog 28 #[.float .f64 l, .float .f64 x, .float .f64 a] w (FE w (canB x) 0) := by
  have NA := nan8_any w a ha
  have NX := nan8_any w x hx
  have NL := nan8_any w l hl
  have NG := minus3_any w a ha
  have NK := kind3_any w a ha
  rw [na, nx, nl, ng] at *
  go_enter Try.func28, Try.ntmps28
  go_wp2_with fail
  with_reducible refine (NA).mono ?_
  rintro e w1 ⟨rfl, rfl⟩
  go_wp2_with fail
  with_reducible refine (NK).mono ?_
  rintro e w1 ⟨rfl, rfl⟩
  go_wp2_with fail
  with_reducible refine (NG).mono ?_
  rintro e w1 ⟨rfl, rfl⟩
  go_wp2_with fail
  with_reducible refine (NX).mono ?_
  rintro e w1 ⟨rfl, rfl⟩
  go_wp2_with fail
  with_reducible refine (NL).mono ?_
  rintro e w1 ⟨rfl, rfl⟩
  go_wp2
  go_ret2
  exact ⟨_, rfl, hx, by first | rfl | decide, Below.refl _ _⟩


theorem dsmooth_4lt (w : World) (l x a : Nat) (hl : l ≤ 18446744073709551615) (hx : x ≤ 18446744073709551615) (ha : a ≤ 18446744073709551615)
    (na : nanB a = false)
    (hkn : ¬ ((kindB a : Nat) : Int) = 0)
    (ng : negB a = false)
    (h1 : FloatKind.f64.format.order a 4607182418800017408 = some .lt)
    (nx : nanB x = true) :
    Calls Try.prog 28 #[.float .f64 l, .float .f64 x, .float .f64 a] w (FE w (canB l) 0) := by
  have NA := nan8_any w a ha
  have NX := nan8_any w x hx
  have NL := nan8_any w l hl
  have NG := minus3_any w a ha
  have NK := kind3_any w a ha
  rw [na, nx, ng] at *
  go_enter Try.func28, Try.ntmps28
  go_wp2_with fail
  with_reducible refine (NA).mono ?_
  rintro e w1 ⟨rfl, rfl⟩
  go_wp2_with fail
  with_reducible refine (NK).mono ?_
  rintro e w1 ⟨rfl, rfl⟩
  go_wp2_with fail
  with_reducible refine (NG).mono ?_
  rintro e w1 ⟨rfl, rfl⟩
  go_wp2_with fail
  with_reducible refine (NX).mono ?_
  rintro e w1 ⟨rfl, rfl⟩
  go_wp2
  go_ret2
  exact ⟨_, rfl, hl, by first | rfl | decide, Below.refl _ _⟩


theorem dsmooth_5lt (w : World) (l x a : Nat) (hl : l ≤ 18446744073709551615) (hx : x ≤ 18446744073709551615) (ha : a ≤ 18446744073709551615)
    (na : nanB a = false)
    (hkn : ¬ ((kindB a : Nat) : Int) = 0)
    (ng : negB a = false)
    (h1 : FloatKind.f64.format.order a 4607182418800017408 = some .lt)
    (nx : nanB x = false)
    (nl : nanB l = true) :
    Calls Try.prog 28 #[.float .f64 l, .float .f64 x, .float .f64 a] w (FE w (canB x) 0) := by
  have NA := nan8_any w a ha
  have NX := nan8_any w x hx
  have NL := nan8_any w l hl
  have NG := minus3_any w a ha
  have NK := kind3_any w a ha
  rw [na, nx, nl, ng] at *
  go_enter Try.func28, Try.ntmps28
  go_wp2_with fail
  with_reducible refine (NA).mono ?_
  rintro e w1 ⟨rfl, rfl⟩
  go_wp2_with fail
  with_reducible refine (NK).mono ?_
  rintro e w1 ⟨rfl, rfl⟩
  go_wp2_with fail
  with_reducible refine (NG).mono ?_
  rintro e w1 ⟨rfl, rfl⟩
  go_wp2_with fail
  with_reducible refine (NX).mono ?_
  rintro e w1 ⟨rfl, rfl⟩
  go_wp2_with fail
  with_reducible refine (NL).mono ?_
  rintro e w1 ⟨rfl, rfl⟩
  go_wp2
  go_ret2
  exact ⟨_, rfl, hx, by first | rfl | decide, Below.refl _ _⟩


theorem dsmooth_6 (w : World) (l x a : Nat) (hl : l ≤ 18446744073709551615) (hx : x ≤ 18446744073709551615) (ha : a ≤ 18446744073709551615)
    (na : nanB a = false)
    (hkn : ¬ ((kindB a : Nat) : Int) = 0)
    (ng : negB a = false)
    (h1 : FloatKind.f64.format.order a 4607182418800017408 = some .eq)
    (nx : nanB x = false)
    (nl : nanB l = false) :
    Calls Try.prog 28 #[.float .f64 l, .float .f64 x, .float .f64 a] w (FE w (canB x) 0) := by
  have NA := nan8_any w a ha
  have NX := nan8_any w x hx
  have NL := nan8_any w l hl
  have NG := minus3_any w a ha
  have NK := kind3_any w a ha
  rw [na, nx, nl, ng] at *
  go_enter Try.func28, Try.ntmps28
  go_wp2_with fail
  with_reducible refine (NA).mono ?_
  rintro e w1 ⟨rfl, rfl⟩
  go_wp2_with fail
  with_reducible refine (NK).mono ?_
  rintro e w1 ⟨rfl, rfl⟩
  go_wp2_with fail
  with_reducible refine (NG).mono ?_
  rintro e w1 ⟨rfl, rfl⟩
  go_wp2_with fail
  with_reducible refine (NX).mono ?_
  rintro e w1 ⟨rfl, rfl⟩
  go_wp2_with fail
  with_reducible refine (NL).mono ?_
  rintro e w1 ⟨rfl, rfl⟩
  go_wp2
  go_ret2
  exact ⟨_, rfl, hx, by first | rfl | decide, Below.refl _ _⟩


theorem dsmooth_7 (w : World) (l x a : Nat) (hl : l ≤ 18446744073709551615) (hx : x ≤ 18446744073709551615) (ha : a ≤ 18446744073709551615)
    (na : nanB a = false)
    (hkn : ¬ ((kindB a : Nat) : Int) = 0)
    (ng : negB a = false)
    (h1 : FloatKind.f64.format.order a 4607182418800017408 = some .lt)
    (nx : nanB x = false)
    (nl : nanB l = false) :
    Calls Try.prog 28 #[.float .f64 l, .float .f64 x, .float .f64 a] w (FE w (fop .add (canB l) (fop .mul (canB a) (fop .sub (canB x) (canB l)))) 0) := by
  have NA := nan8_any w a ha
  have NX := nan8_any w x hx
  have NL := nan8_any w l hl
  have NG := minus3_any w a ha
  have NK := kind3_any w a ha
  rw [na, nx, nl, ng] at *
  have F := fun op h x y w => run_fV Try.prog (op := op) h 27 x y w
  have F1 := F .sub rfl
  have F2 := F .mul rfl
  have F3 := F .add rfl
  clear F
  go_enter Try.func28, Try.ntmps28
  go_wp2_with fail
  with_reducible refine (NA).mono ?_
  rintro e w1 ⟨rfl, rfl⟩
  go_wp2_with fail
  with_reducible refine (NK).mono ?_
  rintro e w1 ⟨rfl, rfl⟩
  go_wp2_with fail
  with_reducible refine (NG).mono ?_
  rintro e w1 ⟨rfl, rfl⟩
  go_wp2_with fail
  with_reducible refine (NX).mono ?_
  rintro e w1 ⟨rfl, rfl⟩
  go_wp2_with fail
  with_reducible refine (NL).mono ?_
  rintro e w1 ⟨rfl, rfl⟩
  go_wp2
  go_ret2
  refine ⟨_, rfl, fV_le _ _ _ _, ?_, ?_⟩
  · rw [can_fV, can_fV, can_fV]
  · first | exact below_drewN (Below.refl _ _) _ | exact below_drewN (below_drewN (Below.refl _ _) _) _ | exact below_drewN (below_drewN (below_drewN (Below.refl _ _) _) _) _


def smE (a : Nat) : Int := if nanB a then 4 else if le0B a then 5 else if 4607182418800017408 < a then 5 else 0
def smV (l x a : Nat) : Nat := if nanB a then 0 else if le0B a then 0 else if 4607182418800017408 < a then 0 else if nanB x then canB l else if nanB l then canB x else if a = 4607182418800017408 then canB x else fop .add (canB l) (fop .mul (canB a) (fop .sub (canB x) (canB l)))
theorem smooth_both (l x a : Nat) (hl : l ≤ 18446744073709551615) (hx : x ≤ 18446744073709551615) (ha : a ≤ 18446744073709551615) :
    (∀ w, Calls Try.prog 27 #[.float .f64 l, .float .f64 x, .float .f64 a] w (FE w (smV l x a) (smE a))) ∧
    (∀ w, Calls Try.prog 28 #[.float .f64 l, .float .f64 x, .float .f64 a] w (FE w (smV l x a) (smE a))) := by
  unfold smV smE
  rcases na : nanB a with _ | _
  · simp only [Bool.false_eq_true, if_false]
    rcases h0 : le0B a with _ | _
    · simp only [Bool.false_eq_true, if_false]
      have hg : szB a ≠ 0 ∧ negB a = false := by
        unfold le0B at h0
        rw [Bool.or_eq_false_iff] at h0
        exact ⟨of_decide_eq_false h0.1, h0.2⟩
      have hkn : ¬ ((kindB a : Nat) : Int) = 0 := fun e => hg.1 ((kind0 a).1 (by omega))
      have ng := hg.2
      have hn : FloatKind.f64.format.order a 0 = some .gt := by
        rcases ord_nought ha na with ⟨q, _, _⟩ | ⟨q, _, _⟩ | ⟨_, _, q⟩
        · rw [h0] at q; cases q
        · rw [h0] at q; cases q
        · exact q
      rcases ord_one ha na h0 with ⟨g, h1⟩ | ⟨g, h1⟩ | ⟨g, h1⟩
      · simp only [if_pos g]
        exact ⟨fun w => smooth_3 w l x a hl hx ha na hn h1, fun w => dsmooth_3 w l x a hl hx ha na hkn ng h1⟩
      · simp only [if_neg (show ¬ 4607182418800017408 < a by omega)]
        rcases nx : nanB x with _ | _
        · simp only [Bool.false_eq_true, if_false]
          rcases nl : nanB l with _ | _
          · simp only [Bool.false_eq_true, if_false]
            simp only [if_pos g]
            exact ⟨fun w => smooth_6 w l x a hl hx ha na hn h1 nx nl, fun w => dsmooth_6 w l x a hl hx ha na hkn ng h1 nx nl⟩
          · simp only [if_true]
            exact ⟨fun w => smooth_5eq w l x a hl hx ha na hn h1 nx nl, fun w => dsmooth_5eq w l x a hl hx ha na hkn ng h1 nx nl⟩
        · simp only [if_true]
          exact ⟨fun w => smooth_4eq w l x a hl hx ha na hn h1 nx, fun w => dsmooth_4eq w l x a hl hx ha na hkn ng h1 nx⟩
      · simp only [if_neg (show ¬ 4607182418800017408 < a by omega)]
        rcases nx : nanB x with _ | _
        · simp only [Bool.false_eq_true, if_false]
          rcases nl : nanB l with _ | _
          · simp only [Bool.false_eq_true, if_false]
            simp only [if_neg (show ¬ a = 4607182418800017408 by omega)]
            exact ⟨fun w => smooth_7 w l x a hl hx ha na hn h1 nx nl, fun w => dsmooth_7 w l x a hl hx ha na hkn ng h1 nx nl⟩
          · simp only [if_true]
            exact ⟨fun w => smooth_5lt w l x a hl hx ha na hn h1 nx nl, fun w => dsmooth_5lt w l x a hl hx ha na hkn ng h1 nx nl⟩
        · simp only [if_true]
          exact ⟨fun w => smooth_4lt w l x a hl hx ha na hn h1 nx, fun w => dsmooth_4lt w l x a hl hx ha na hkn ng h1 nx⟩
    · simp only [if_true]
      constructor
      · intro w
        rcases ord_nought ha na with ⟨_, _, q⟩ | ⟨_, _, q⟩ | ⟨q, _, _⟩
        · exact smooth_2eq w l x a hl hx ha na q
        · exact smooth_2lt w l x a hl hx ha na q
        · rw [h0] at q; cases q
      · intro w
        by_cases hk : ((kindB a : Nat) : Int) = 0
        · exact dsmooth_2a w l x a hl hx ha na hk
        · refine dsmooth_2b w l x a hl hx ha na hk ?_
          unfold le0B at h0
          rw [Bool.or_eq_true_iff] at h0
          rcases h0 with h0 | h0
          · exact absurd (by have := (kind0 a).2 (of_decide_eq_true h0); omega) hk
          · exact h0
  · simp only [if_true]
    exact ⟨fun w => smooth_1 w l x a hl hx ha na, fun w => dsmooth_1 w l x a hl hx ha na⟩
end Go.Proofs.Ytffibfnagoagcaa
