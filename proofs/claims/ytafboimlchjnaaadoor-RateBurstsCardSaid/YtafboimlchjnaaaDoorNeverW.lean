/- The law RateNever: its walk, whatever the rate. -/
import Derived.Test.YtafboimlchjnaaaDoorNever
namespace Go.Proofs.YtafboimlchjnaaaDoor
open Go.RowKit
set_option maxRecDepth 100000
set_option linter.unusedVariables false

theorem gapT_one {p hz : Nat} (h0 : 0 < p) (hp : p < 9223372036854775808) (h1 : 1 ≤ hz) : 1 ≤ gapT p hz := by
  have h := gapT_ge (hz := hz) h0 hp
  rcases Nat.eq_zero_or_pos (gapT p hz) with e | e
  · rw [e, Nat.zero_mul] at h
    have := Nat.mul_pos h1 (pow_pos2 cE)
    omega
  · exact e
theorem ofV_nil {p b : Nat} {hz : Int} (hb : szB b = 0) : ofV p b hz = if toldV p b hz ≠ 0 then (0, 0, toldV p b hz) else if capB (gapT p hz.toNat) = false then (0, 0, 5) else (((gapT p hz.toNat : Nat) : Int), 0, 0) := by
  unfold ofV
  rw [aheadT_zero hb]
  have : capB 0 = true := by decide
  rw [this]
  simp
theorem dreal_ok {T h : Nat} (h1 : 1 ≤ T) (h2 : T ≤ 4611686018427387903) (h3 : 1 ≤ h) (h4 : h ≤ 1000000000) : drealV (T : Int) 0 (h : Int) = .tuple #[.float .f64 (nearB h T), .int .i64 0] := by
  unfold drealV
  have hk : checkV (T : Int) 0 = 0 := checkV_ok (by omega) (isTick_iff.2 ⟨by omega, by omega⟩) (isTick_iff.2 ⟨by omega, by omega⟩)
  rw [hk, if_neg (by omega), ratioB_same (by rw [decide_eq_false (by omega), decide_eq_false (by omega)]), Int.natAbs_natCast, Int.natAbs_natCast]
theorem ord_at {x p : Nat} (hx : x < 9218868437227405312) (hp : p < 9218868437227405312) : FloatKind.f64.format.order x p = some (compare (x : Int) (p : Int)) := ordF_pos hx hp
theorem ord_lt {x p : Nat} (h : x < p) (hp : p < 9218868437227405312) : FloatKind.f64.format.order x p = some .lt := by
  rw [ord_at (by omega) hp, order_lt_iff.2 (by omega)]
theorem ord_le {x p : Nat} (h : x ≤ p) (hp : p < 9218868437227405312) : FloatKind.f64.format.order x p = some .lt ∨ FloatKind.f64.format.order x p = some .eq := by
  rcases Nat.lt_or_ge x p with h1 | h1
  · exact .inl (ord_lt h1 hp)
  · right; rw [ord_at (by omega) hp, order_eq_iff.2 (by omega)]
theorem ord_ge {x p : Nat} (h : p ≤ x) (hp : x < 9218868437227405312) : FloatKind.f64.format.order x p = some .gt ∨ FloatKind.f64.format.order x p = some .eq := by
  rcases Nat.lt_or_ge p x with h1 | h1
  · left; rw [ord_at hp (by omega), order_gt_iff.2 (by omega)]
  · right; rw [ord_at hp (by omega), order_eq_iff.2 (by omega)]

theorem rateNever_walk (p hz : Int) (w : World) (wp : (Lit.int .u64 p).wf = true) (wh : (Lit.int .i64 hz).wf = true) (hT : Tab w) :
    Calls Tryd.prog 13 #[.int .u64 p, .int .i64 hz] w (ValEnd w (.bool true)) := by
  have b1 := bounds_u64 wp
  have b2 := bounds_i64 wh
  obtain ⟨p, rfl⟩ : ∃ k : Nat, p = (k : Int) := ⟨p.toNat, by omega⟩
  have hp : p ≤ 18446744073709551615 := by omega
  have HA : ∀ w', Below w.heap.size w w' → Calls Tryd.prog 43 #[] w' (ValEnd w' (.bool true)) := fun w' h => awake4_any w' (hT.below h)
  have HO : ∀ w, Calls Tryd.prog 40 #[.int .u64 (p : Int), .int .u64 0, .int .i64 hz] w (ValEnd w (RateV p 0 hz)) := fun w => of4_any w p 0 hz
  have HP : ∀ (q : Nat), q ≤ 18446744073709551615 → ∀ w', Below w.heap.size w w' → Calls Tryd.prog 41 #[RateV q 0 hz] w' (LimE w' (ofV q 0 hz).1 (ofV q 0 hz).2.1 (ofV q 0 hz).2.2) := fun q hq w' h => of_any w' q 0 hz hq (by omega) (hT.below h)
  have hv := ofV_nil (p := p) (b := 0) (hz := hz) rfl
  by_cases ht : toldV p 0 hz = 0
  · rw [if_neg (by omega)] at hv
    by_cases hc : capB (gapT p hz.toNat) = false
    · rw [if_pos hc] at hv
      have H := HP p hp
      rw [hv] at H
      exact rateNever_e w p hz 5 (Lib.hid HA) (Lib.hid HO) (by decide) (Lib.hid H)
    · rw [if_neg hc] at hv
      obtain ⟨z1, z2, p1, p2, pn, _⟩ := told_zero hp (by omega) ht
      have hlt : p < 9223372036854775808 := by have := of_decide_eq_false pn; omega
      have hsz : szB p = p := Nat.mod_eq_of_lt hlt
      rw [hsz] at p1 p2
      have hcap : gapT p hz.toNat ≤ 4611686018427387903 := of_decide_eq_true (by simpa [capB] using hc)
      have g1 : 1 ≤ gapT p hz.toNat := gapT_one p2 (by omega) (by omega)
      have H := HP p hp
      rw [hv] at H
      obtain ⟨h, rfl⟩ : ∃ k : Nat, hz = (k : Int) := ⟨hz.toNat, by omega⟩
      rw [Int.toNat_natCast] at *
      have n1 := never_le p2 p1 (by omega) (by omega) hcap g1
      have n2 := never_ge p2 p1 (by omega) (by omega) hcap (hz := h)
      have n3 := fun hq => never_half (hz := h) p2 hq
      have R1 : ∀ T : Nat, 1 ≤ T → T ≤ 4611686018427387903 → ∀ w, Calls Tryd.prog 45 #[.agg #[.int .i64 (T : Int), .int .i64 0], .int .i64 (h : Int)] w (ValEnd w (.tuple #[.float .f64 (nearB h T), .int .i64 0])) := fun T t1 t2 w => by
        have := realP_any w T 0 h (by omega) (by omega)
        rw [dreal_ok t1 t2 (by omega) (by omega)] at this
        exact this
      have K : p < 9110782046170513408 → twB p < 9218868437227405312 := fun hl => by unfold twB; split <;> omega
      have HQ : p < 9110782046170513408 → ∀ w', Below w.heap.size w w' → Calls Tryd.prog 41 #[RateV (twB p) 0 h] w' (ValEnd w' (.tuple #[.agg #[.int .i64 ((gapT (twB p) h : Nat) : Int), .int .i64 0], .int .i64 0])) := fun hl => by
        have hk := K hl
        have hs : szB (twB p) = twB p := Nat.mod_eq_of_lt (by omega)
        have hl2 := le_tw p
        have hw := n3 hk
        have H2 := HP (twB p) (by omega)
        rw [ofV_nil rfl, if_neg (by rw [told_good z1 z2 (by rw [hs]; exact hk) (by rw [hs]; omega) (decide_eq_false (by omega)) (by decide) (.inl (by decide))]; simp), Int.toNat_natCast, if_neg (by unfold capB; rw [decide_eq_true (by omega)]; simp)] at H2
        exact H2
      have HM : p < 9110782046170513408 → ∀ w, (binOp .mul 23 (.float .f64 4611686018427387904) (.float .f64 p)).run Tryd.prog w = .ok (.float .f64 (twB p)) w := fun hl w => run_float_arith w .mul 23 .f64 _ _ _ (mul_two_S (K hl) p2)
      have nb : ∀ T : Nat, 1 ≤ T → T ≤ 4611686018427387903 → nearB h T < 9218868437227405312 := fun T t1 t2 => by
        have := nearB_le (N := h) (M := T) (by omega) (by omega) (by omega)
        omega
      generalize gapT p h = T at *
      have HX := ord_le n1 p1
      rcases Nat.lt_or_ge p 9110782046170513408 with hl | hl
      · have hC := ord_lt hl (by omega)
        have hw := n3 (K hl)
        by_cases hT1 : 1 < T
        · have HY := R1 (T - 1) (by omega) (by omega)
          have hyx := n2 hT1
          have HYL := ord_ge hyx (nb (T - 1) (by omega) (by omega))
          have e : ((T - 1 : Nat) : Int) = (T : Int) - 1 := by omega
          rw [e] at HY
          rcases HX with HX | HX <;> rcases HYL with HYL | HYL
          · exact rateNever_d_lt_gt w p _ _ _ h T _ (Lib.hid HA) (Lib.hid HO) (Lib.hid H) (Lib.hid (R1 T g1 hcap)) (by omega) (by omega) (by omega) HX (Lib.hid HY) HYL hC (Lib.hid (HM hl)) (Lib.hid (HQ hl)) (by omega) (by omega) (by omega)
          · exact rateNever_d_lt_eq w p _ _ _ h T _ (Lib.hid HA) (Lib.hid HO) (Lib.hid H) (Lib.hid (R1 T g1 hcap)) (by omega) (by omega) (by omega) HX (Lib.hid HY) HYL hC (Lib.hid (HM hl)) (Lib.hid (HQ hl)) (by omega) (by omega) (by omega)
          · exact rateNever_d_eq_gt w p _ _ _ h T _ (Lib.hid HA) (Lib.hid HO) (Lib.hid H) (Lib.hid (R1 T g1 hcap)) (by omega) (by omega) (by omega) HX (Lib.hid HY) HYL hC (Lib.hid (HM hl)) (Lib.hid (HQ hl)) (by omega) (by omega) (by omega)
          · exact rateNever_d_eq_eq w p _ _ _ h T _ (Lib.hid HA) (Lib.hid HO) (Lib.hid H) (Lib.hid (R1 T g1 hcap)) (by omega) (by omega) (by omega) HX (Lib.hid HY) HYL hC (Lib.hid (HM hl)) (Lib.hid (HQ hl)) (by omega) (by omega) (by omega)
        · exact rateNever_b w p _ _ h T _ (Lib.hid HA) (Lib.hid HO) (Lib.hid H) (Lib.hid (R1 T g1 hcap)) (by omega) (by omega) (by omega) hC (Lib.hid (HM hl)) (Lib.hid (HQ hl)) (by omega) (by omega) (by omega)
      · have hC := ord_ge hl p1
        by_cases hT1 : 1 < T
        · have HY := R1 (T - 1) (by omega) (by omega)
          have hyx := n2 hT1
          have HYL := ord_ge hyx (nb (T - 1) (by omega) (by omega))
          have e : ((T - 1 : Nat) : Int) = (T : Int) - 1 := by omega
          rw [e] at HY
          rcases hC with hC | hC <;> rcases HX with HX | HX <;> rcases HYL with HYL | HYL
          · exact rateNever_c_gt_lt_gt w p _ _ h T (Lib.hid HA) (Lib.hid HO) (Lib.hid H) (Lib.hid (R1 T g1 hcap)) (by omega) (by omega) (by omega) HX (Lib.hid HY) HYL hC
          · exact rateNever_c_gt_lt_eq w p _ _ h T (Lib.hid HA) (Lib.hid HO) (Lib.hid H) (Lib.hid (R1 T g1 hcap)) (by omega) (by omega) (by omega) HX (Lib.hid HY) HYL hC
          · exact rateNever_c_gt_eq_gt w p _ _ h T (Lib.hid HA) (Lib.hid HO) (Lib.hid H) (Lib.hid (R1 T g1 hcap)) (by omega) (by omega) (by omega) HX (Lib.hid HY) HYL hC
          · exact rateNever_c_gt_eq_eq w p _ _ h T (Lib.hid HA) (Lib.hid HO) (Lib.hid H) (Lib.hid (R1 T g1 hcap)) (by omega) (by omega) (by omega) HX (Lib.hid HY) HYL hC
          · exact rateNever_c_eq_lt_gt w p _ _ h T (Lib.hid HA) (Lib.hid HO) (Lib.hid H) (Lib.hid (R1 T g1 hcap)) (by omega) (by omega) (by omega) HX (Lib.hid HY) HYL hC
          · exact rateNever_c_eq_lt_eq w p _ _ h T (Lib.hid HA) (Lib.hid HO) (Lib.hid H) (Lib.hid (R1 T g1 hcap)) (by omega) (by omega) (by omega) HX (Lib.hid HY) HYL hC
          · exact rateNever_c_eq_eq_gt w p _ _ h T (Lib.hid HA) (Lib.hid HO) (Lib.hid H) (Lib.hid (R1 T g1 hcap)) (by omega) (by omega) (by omega) HX (Lib.hid HY) HYL hC
          · exact rateNever_c_eq_eq_eq w p _ _ h T (Lib.hid HA) (Lib.hid HO) (Lib.hid H) (Lib.hid (R1 T g1 hcap)) (by omega) (by omega) (by omega) HX (Lib.hid HY) HYL hC
        · rcases hC with hC | hC
          · exact rateNever_a_gt w p _ h T (Lib.hid HA) (Lib.hid HO) (Lib.hid H) (Lib.hid (R1 T g1 hcap)) (by omega) (by omega) (by omega) hC
          · exact rateNever_a_eq w p _ h T (Lib.hid HA) (Lib.hid HO) (Lib.hid H) (Lib.hid (R1 T g1 hcap)) (by omega) (by omega) (by omega) hC
  · rw [if_pos ht] at hv
    have H := HP p hp
    rw [hv] at H
    exact rateNever_e w p hz _ (Lib.hid HA) (Lib.hid HO) (bne_iff_ne.2 ht) (Lib.hid H)
end Go.Proofs.YtafboimlchjnaaaDoor
