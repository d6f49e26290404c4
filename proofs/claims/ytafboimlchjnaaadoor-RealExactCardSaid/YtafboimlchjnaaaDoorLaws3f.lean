/- The walk of RealExact. -/
import Derived.Test.YtafboimlchjnaaaDoorLaws3e
import Derived.Test.YtafboimlchjnaaaDoorExactM
namespace Go.Proofs.YtafboimlchjnaaaDoor
open Go.RowKit
set_option maxRecDepth 100000

theorem and53 (n : Int) : Go.bits BinOp.and IntKind.i64 n 9007199254740991 = n % 9007199254740992 := by
  have h53 : (BitVec.ofInt 64 9007199254740991).toNat = 2 ^ 53 - 1 := by decide
  have key : (BitVec.ofInt 64 n &&& BitVec.ofInt 64 9007199254740991).toNat = (n % ((2 ^ 64 : Nat) : Int)).toNat % 2 ^ 53 := by
    rw [BitVec.toNat_and, BitVec.toNat_ofInt, h53, Nat.and_two_pow_sub_one_eq_mod]
  show IntKind.i64.wrap ((BitVec.ofInt 64 n &&& BitVec.ofInt 64 9007199254740991).toNat : Nat) = n % 9007199254740992
  rw [key, IntKind.wrap_i64]
  omega

set_option maxHeartbeats 400000 in
theorem ldexp_zero (w : World) : Calls Tryd.prog 74 #[.float .f64 0, .int .i64 0] w fun e w' => e = .returned (.float .f64 0) ∧ w = w' := by
  have O : FloatKind.f64.format.order 0 0 = some .eq := by decide +kernel
  go_enter Tryd.func74, Tryd.ntmps74
  go_wp2
  go_ret
  exact ⟨rfl, rfl⟩

/-- What RealExact sees of a float: its kind, its parts, and the float that they make again. -/
theorem exact_cases (b : Nat) (hb : b ≤ 18446744073709551615) :
    (∃ g k : Int, exactV b = .tuple #[.bool false, .int .u64 0, .int .i64 0, .int .i64 g] ∧ g ≠ 0 ∧ (kindB b : Int) = k ∧ 2 < k) ∨
    (∃ (s : Bool) (m : Nat) (p : Int) (fm r : Nat), exactV b = .tuple #[.bool s, .int .u64 (m : Int), .int .i64 p, .int .i64 0] ∧ floatOfInt FloatKind.f64 (m : Int) = fm ∧
      (∀ w, Calls Tryd.prog 38 #[.float .f64 fm, .int .i64 p] w fun e w' => e = .returned (.float .f64 r) ∧ w = w') ∧
      r ≤ 18446744073709551615 ∧ (s = false → r = b) ∧ (s = true → turnB r = b) ∧ (((m : Int) % 2 == 1) = true ∨ (((m : Int) % 2 == 1) = false ∧ m = 0 ∧ p = 0))) := by
  by_cases h4 : kindB b = 4
  · exact .inl ⟨4, 4, by unfold exactV; rw [if_pos h4], by decide, by omega, by omega⟩
  by_cases h3 : kindB b = 3
  · exact .inl ⟨5, 3, by unfold exactV; rw [if_neg h4, if_pos h3], by decide, by omega, by omega⟩
  right
  have hlt : szB b < 9218868437227405312 := by
    rcases Nat.lt_or_ge (szB b) 9218868437227405312 with h | h
    · exact h
    · rcases Nat.eq_or_lt_of_le h with h | h
      · exact absurd (kindS_3 h.symm) h3
      · exact absurd (kindS_4 h) h4
  have hneg : (negB b = false → szB b = b) ∧ (negB b = true → turnB (szB b) = b) := by
    constructor
    · intro h
      have := of_decide_eq_false h
      exact Nat.mod_eq_of_lt (by omega)
    · intro h
      have := of_decide_eq_true h
      unfold turnB
      rw [if_pos (szB_lt b)]
      unfold szB; omega
  by_cases h0 : manS (szB b) = 0
  · have hs0 : szB b = 0 := by unfold manS at h0; split at h0 <;> omega
    rw [hs0] at hneg
    exact ⟨negB b, 0, 0, 0, 0, by unfold exactV; rw [if_neg h4, if_neg h3, if_pos h0]; rfl, int_float0, fun w => ldexp_to w 0 0 0 (ldexp_zero w), by omega, hneg.1, hneg.2, .inr ⟨rfl, rfl, rfl⟩⟩
  · have hml := manS_lt (szB b)
    have ho := tz_spec 64 (manS (szB b)) (by omega) (by omega)
    have hop : oddM (manS (szB b)) % 2 = 1 := ho.1
    have hol : oddM (manS (szB b)) < 9007199254740992 := Nat.lt_of_le_of_lt (Nat.div_le_self _ _) hml
    have hfl := int_float (N := oddM (manS (szB b))) (by omega) hol
    have heb := expS_bd (szB_lt b)
    have htz := tz_lt (m := manS (szB b)) (by omega) (by omega)
    have hps := expS_pS (szB b)
    refine ⟨negB b, oddM (manS (szB b)), expS (szB b) + tz 64 (manS (szB b)), nearB (oddM (manS (szB b))) 1, szB b, by unfold exactV; rw [if_neg h4, if_neg h3, if_neg h0], hfl, fun w => ?_, by have := szB_lt b; omega, hneg.1, hneg.2, .inl (by rw [beq_iff_eq]; omega)⟩
    rcases Nat.lt_or_ge (szB b) 4503599627370496 with hs | hs
    · have hp : 0 < szB b := by
        rcases Nat.eq_zero_or_pos (szB b) with h | h
        · exfalso; apply h0; rw [h]; rfl
        · exact h
      obtain ⟨x, f, y, r, e1, e2, x1, x2, hy, y1, y2, hr, hm⟩ := exact_sub hs hp
      exact ldexp_to w _ _ _ (ldexp_sub w _ x f y r (szB b) _ e1 e2 x1 x2 (by omega) (by omega) hy y1 y2 hr (Lib.hid hm))
    · obtain ⟨x, f, y, e1, e2, x1, x2, hy, y1, y2, hr⟩ := exact_norm hlt hs
      exact ldexp_to w _ _ _ (ldexp_norm w _ x f y (szB b) _ e1 e2 x1 x2 (by omega) (by omega) hy y1 y2 hr)

/-- The head of RealExact: a whole number is told back. -/
theorem whole_order {N : Nat} (h : N < 9007199254740992) : floatOfInt FloatKind.f64 (N : Int) = nearB N 1 := by
  rcases Nat.eq_zero_or_pos N with rfl | h0
  · rw [nearB_zero]; exact int_float0
  · exact int_float h0 h

set_option maxHeartbeats 3200000 in
theorem realExact_bad (w : World) (a : Int) (b N : Nat) (g k : Int) (ea : Go.bits BinOp.and IntKind.i64 a 9007199254740991 = (N : Int)) (hN : N < 9007199254740992) (hb : b ≤ 18446744073709551615) (hv : exactV b = .tuple #[.bool false, .int .u64 0, .int .i64 0, .int .i64 g]) (hg : g ≠ 0) (hk : (kindB b : Int) = k) (hk2 : 2 < k) (hT : Tab w) : Calls Tryd.prog 8 #[.int .u64 (b : Int), .int .i64 a] w fun e w' => e = .returned (.bool true) ∧ Below w.heap.size w w' := by
  have hle := nearB_le (N := N) (M := 1) (by omega) (by omega) (by omega)
  have HT := Lib.hid hT
  have HA := Lib.hid (fun w hT => awake3_any w hT)
  have hs : secV N 1 = .tuple #[.float .f64 (nearB N 1), .int .i64 0] := by
    unfold secV
    rw [if_neg (by rw [isTick_iff.2 ⟨by omega, by omega⟩]; simp), ratio_whole]
  have H1 := Lib.hid (fun w => secP_any w N 1 (by omega) (by omega) (by omega) (by omega))
  have H2 := Lib.hid (fun w hT => ticksP_any w (nearB N 1) 1 2 (by omega) hT)
  rw [hs] at H1
  rw [ticks_whole hN] at H2
  have EF := whole_order hN
  have O1 : FloatKind.f64.format.order (nearB N 1) (nearB N 1) = some .eq := ordF_self (by omega) (by unfold szB; omega)
  have HM := Lib.hid (fun w => minusP_any w (nearB N 1) (by omega))
  rw [show negB (nearB N 1) = false from decide_eq_false (by omega)] at HM
  have HO := Lib.hid (fun w => of3_any w b)
  have HX := Lib.hid (fun w hT => exactP_any w b hb hT)
  rw [hv] at HX
  have HK := Lib.hid (fun w => kindP_any w b hb)
  rw [hk] at HK
  have q1 : (g != 0) = true := bne_iff_ne.2 hg
  have q2 : decide (2 < k) = true := decide_eq_true hk2
  clear hv hg hk hk2 hb hN
  clear hs hT hle
  generalize nearB N 1 = s0 at *
  go_enter Tryd.func8, Tryd.ntmps8
  go_wp2_with fail
  refine (HA.out _ HT.out).mono ?_
  rintro e w1 ⟨rfl, hb1⟩
  have HT1 := Lib.hid (HT.out.below hb1)
  have HB1 := Lib.hid hb1
  clear hb1
  go_wp2_with fail
  refine (H1.out _).mono ?_
  rintro e w2 ⟨rfl, n, rfl⟩
  go_wp2_with fail
  refine (H2.out _ (HT1.out.drewN n)).mono ?_
  rintro e w2 ⟨rfl, hb2⟩
  have HT2 := Lib.hid ((HT1.out.drewN n).below hb2)
  have HB2 := Lib.hid ((below_drewN HB1.out n).trans (hb2.mono HB1.out.size))
  clear hb2
  go_wp2_with fail
  refine (HM.out _).mono ?_
  rintro e w3 ⟨rfl, rfl⟩
  go_wp2_with fail
  refine (HO.out _).mono ?_
  rintro e w3 ⟨rfl, rfl⟩
  go_wp2_with fail
  refine (HX.out _ HT2.out).mono ?_
  rintro e w3 ⟨rfl, n2, rfl⟩
  go_wp2_with fail
  refine (HK.out _).mono ?_
  rintro e w3 ⟨rfl, rfl⟩
  go_wp2
  go_ret
  exact ⟨rfl, below_drewN HB2.out n2⟩

set_option maxHeartbeats 3200000 in
theorem realExact_pos (w : World) (a : Int) (b N : Nat) (m : Nat) (p : Int) (fm r : Nat) (ea : Go.bits BinOp.and IntKind.i64 a 9007199254740991 = (N : Int)) (hN : N < 9007199254740992) (hb : b ≤ 18446744073709551615) (hv : exactV b = .tuple #[.bool false, .int .u64 (m : Int), .int .i64 p, .int .i64 0]) (hf : floatOfInt FloatKind.f64 (m : Int) = fm) (HL : ∀ w, Calls Tryd.prog 38 #[.float .f64 fm, .int .i64 p] w fun e w' => e = .returned (.float .f64 r) ∧ w = w') (hrb : r = b) (hm : ((m : Int) % 2 == 1) = true ∨ (((m : Int) % 2 == 1) = false ∧ m = 0 ∧ p = 0)) (hT : Tab w) : Calls Tryd.prog 8 #[.int .u64 (b : Int), .int .i64 a] w fun e w' => e = .returned (.bool true) ∧ Below w.heap.size w w' := by
  have hle := nearB_le (N := N) (M := 1) (by omega) (by omega) (by omega)
  have HT := Lib.hid hT
  have HA := Lib.hid (fun w hT => awake3_any w hT)
  have hs : secV N 1 = .tuple #[.float .f64 (nearB N 1), .int .i64 0] := by
    unfold secV
    rw [if_neg (by rw [isTick_iff.2 ⟨by omega, by omega⟩]; simp), ratio_whole]
  have H1 := Lib.hid (fun w => secP_any w N 1 (by omega) (by omega) (by omega) (by omega))
  have H2 := Lib.hid (fun w hT => ticksP_any w (nearB N 1) 1 2 (by omega) hT)
  rw [hs] at H1
  rw [ticks_whole hN] at H2
  have EF := whole_order hN
  have O1 : FloatKind.f64.format.order (nearB N 1) (nearB N 1) = some .eq := ordF_self (by omega) (by unfold szB; omega)
  have HM := Lib.hid (fun w => minusP_any w (nearB N 1) (by omega))
  rw [show negB (nearB N 1) = false from decide_eq_false (by omega)] at HM
  have HO := Lib.hid (fun w => of3_any w b)
  have HX := Lib.hid (fun w hT => exactP_any w b hb hT)
  rw [hv] at HX
  have HLL := Lib.hid HL
  have HS := Lib.hid (fun w => same3_any w b b hb hb)
  rw [sameB_refl] at HS
  have HMM := Lib.hid hm
  subst hrb
  clear hv HL hb hN hm
  clear hs hT hle
  generalize nearB N 1 = s0 at *
  go_enter Tryd.func8, Tryd.ntmps8
  go_wp2_with fail
  refine (HA.out _ HT.out).mono ?_
  rintro e w1 ⟨rfl, hb1⟩
  have HT1 := Lib.hid (HT.out.below hb1)
  have HB1 := Lib.hid hb1
  clear hb1
  go_wp2_with fail
  refine (H1.out _).mono ?_
  rintro e w2 ⟨rfl, n, rfl⟩
  go_wp2_with fail
  refine (H2.out _ (HT1.out.drewN n)).mono ?_
  rintro e w2 ⟨rfl, hb2⟩
  have HT2 := Lib.hid ((HT1.out.drewN n).below hb2)
  have HB2 := Lib.hid ((below_drewN HB1.out n).trans (hb2.mono HB1.out.size))
  clear hb2
  go_wp2_with fail
  refine (HM.out _).mono ?_
  rintro e w3 ⟨rfl, rfl⟩
  go_wp2_with fail
  refine (HO.out _).mono ?_
  rintro e w3 ⟨rfl, rfl⟩
  go_wp2_with fail
  refine (HX.out _ HT2.out).mono ?_
  rintro e w3 ⟨rfl, n2, rfl⟩
  go_wp2_with fail
  refine (HLL.out _).mono ?_
  rintro e w3 ⟨rfl, rfl⟩
  go_wp2_with fail
  refine (HS.out _).mono ?_
  rintro e w3 ⟨rfl, rfl⟩
  rcases HMM.out with h1 | ⟨h1, rfl, rfl⟩
  · go_wp2
    go_ret
    exact ⟨rfl, below_drewN HB2.out n2⟩
  · go_wp2
    go_ret
    exact ⟨rfl, below_drewN HB2.out n2⟩

set_option maxHeartbeats 3200000 in
theorem realExact_neg (w : World) (a : Int) (b N : Nat) (m : Nat) (p : Int) (fm r : Nat) (ea : Go.bits BinOp.and IntKind.i64 a 9007199254740991 = (N : Int)) (hN : N < 9007199254740992) (hb : b ≤ 18446744073709551615) (hv : exactV b = .tuple #[.bool true, .int .u64 (m : Int), .int .i64 p, .int .i64 0]) (hf : floatOfInt FloatKind.f64 (m : Int) = fm) (HL : ∀ w, Calls Tryd.prog 38 #[.float .f64 fm, .int .i64 p] w fun e w' => e = .returned (.float .f64 r) ∧ w = w') (hr : r ≤ 18446744073709551615) (hrb : turnB r = b) (hm : ((m : Int) % 2 == 1) = true ∨ (((m : Int) % 2 == 1) = false ∧ m = 0 ∧ p = 0)) (hT : Tab w) : Calls Tryd.prog 8 #[.int .u64 (b : Int), .int .i64 a] w fun e w' => e = .returned (.bool true) ∧ Below w.heap.size w w' := by
  have hle := nearB_le (N := N) (M := 1) (by omega) (by omega) (by omega)
  have HT := Lib.hid hT
  have HA := Lib.hid (fun w hT => awake3_any w hT)
  have hs : secV N 1 = .tuple #[.float .f64 (nearB N 1), .int .i64 0] := by
    unfold secV
    rw [if_neg (by rw [isTick_iff.2 ⟨by omega, by omega⟩]; simp), ratio_whole]
  have H1 := Lib.hid (fun w => secP_any w N 1 (by omega) (by omega) (by omega) (by omega))
  have H2 := Lib.hid (fun w hT => ticksP_any w (nearB N 1) 1 2 (by omega) hT)
  rw [hs] at H1
  rw [ticks_whole hN] at H2
  have EF := whole_order hN
  have O1 : FloatKind.f64.format.order (nearB N 1) (nearB N 1) = some .eq := ordF_self (by omega) (by unfold szB; omega)
  have HM := Lib.hid (fun w => minusP_any w (nearB N 1) (by omega))
  rw [show negB (nearB N 1) = false from decide_eq_false (by omega)] at HM
  have HO := Lib.hid (fun w => of3_any w b)
  have HX := Lib.hid (fun w hT => exactP_any w b hb hT)
  rw [hv] at HX
  have HLL := Lib.hid HL
  have HS := Lib.hid (fun w => same3_any w b b hb hb)
  rw [sameB_refl] at HS
  have HMM := Lib.hid hm
  have NG : Op.negFloat .f64 r = b := by rw [negf_turn hr, hrb]
  clear hv HL hb hN hr hm hrb
  clear hs hT hle
  generalize nearB N 1 = s0 at *
  go_enter Tryd.func8, Tryd.ntmps8
  go_wp2_with fail
  refine (HA.out _ HT.out).mono ?_
  rintro e w1 ⟨rfl, hb1⟩
  have HT1 := Lib.hid (HT.out.below hb1)
  have HB1 := Lib.hid hb1
  clear hb1
  go_wp2_with fail
  refine (H1.out _).mono ?_
  rintro e w2 ⟨rfl, n, rfl⟩
  go_wp2_with fail
  refine (H2.out _ (HT1.out.drewN n)).mono ?_
  rintro e w2 ⟨rfl, hb2⟩
  have HT2 := Lib.hid ((HT1.out.drewN n).below hb2)
  have HB2 := Lib.hid ((below_drewN HB1.out n).trans (hb2.mono HB1.out.size))
  clear hb2
  go_wp2_with fail
  refine (HM.out _).mono ?_
  rintro e w3 ⟨rfl, rfl⟩
  go_wp2_with fail
  refine (HO.out _).mono ?_
  rintro e w3 ⟨rfl, rfl⟩
  go_wp2_with fail
  refine (HX.out _ HT2.out).mono ?_
  rintro e w3 ⟨rfl, n2, rfl⟩
  go_wp2_with fail
  refine (HLL.out _).mono ?_
  rintro e w3 ⟨rfl, rfl⟩
  go_wp2_with fail
  rw [run_negf, NG]
  simp only [Result.andThen]
  rw [Oper.upon_value]
  go_wp2_with fail
  refine (HS.out _).mono ?_
  rintro e w3 ⟨rfl, rfl⟩
  rcases HMM.out with h1 | ⟨h1, rfl, rfl⟩
  · go_wp2
    go_ret
    exact ⟨rfl, below_drewN HB2.out n2⟩
  · go_wp2
    go_ret
    exact ⟨rfl, below_drewN HB2.out n2⟩

theorem realExact_walk (b a : Int) (w : World) (wb : (Lit.int .u64 b).wf = true) (_wa : (Lit.int .i64 a).wf = true) (hT : Tab w) : Calls Tryd.prog 8 #[.int .u64 b, .int .i64 a] w fun e w' => e = .returned (.bool true) ∧ Below w.heap.size w w' := by
  obtain ⟨b, rfl, hb⟩ := u64_nat wb
  obtain ⟨N, hN⟩ : ∃ N : Nat, a % 9007199254740992 = (N : Int) := ⟨(a % 9007199254740992).toNat, by omega⟩
  have h := and53 a
  rw [hN] at h
  rcases exact_cases b hb with ⟨g, k, hv, hg, hk, hk2⟩ | ⟨s, m, p, fm, r, hv, hf, HL, hr, r1, r2, hm⟩
  · exact realExact_bad w a b N g k h (by omega) hb hv hg hk hk2 hT
  · rcases s with _ | _
    · exact realExact_pos w a b N m p fm r h (by omega) hb hv hf HL (r1 rfl) hm hT
    · exact realExact_neg w a b N m p fm r h (by omega) hb hv hf HL hr (r2 rfl) hm hT
end Go.Proofs.YtafboimlchjnaaaDoor
