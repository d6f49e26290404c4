/- Contract: math/bits.Div64. -/
import Derived.Test.YtafboimlchjnaaaDoorDivM
import Derived.Test.YtafboimlchjnaaaDoorWideB
import Derived.Deep.Cut
import Derived.Lib.ItoaNum
namespace Go.Proofs.YtafboimlchjnaaaDoor
open Go.RowKit
set_option maxRecDepth 100000

theorem and32 {a : Nat} (h : a < 18446744073709551616) : Go.bits BinOp.and IntKind.u64 (a : Int) 4294967295 = ((a % 4294967296 : Nat) : Int) := by
  have := bits_and_u64_nat a 4294967295 h (by omega)
  have e : a &&& 4294967295 = a % 4294967296 := Nat.and_two_pow_sub_one_eq_mod a 32
  rw [e] at this
  exact this

theorem tdiv_nat (a b : Nat) : (a : Int).tdiv (b : Int) = ((a / b : Nat) : Int) := rfl
/-- The rest of a trial digit, as the machine reckons it. -/
theorem trial_rest {U y1 : Nat} (hU : U < 18446744073709551616) : IntKind.u64.wrap ((U : Int) - IntKind.u64.wrap (((U / y1 : Nat) : Int) * (y1 : Int))) = ((U % y1 : Nat) : Int) := by
  have h1 := Nat.div_add_mod U y1
  rw [Nat.mul_comm] at h1
  have h2 : ((U / y1 : Nat) : Int) * (y1 : Int) = ((U / y1 * y1 : Nat) : Int) := (Int.natCast_mul _ _).symm
  rw [h2]
  generalize U / y1 * y1 = p at *
  rw [u64_in (n := (p : Int)) (by omega) (by omega), u64_in (by omega) (by omega)]
  omega
/-- The rest behind a digit, as the machine reckons it: what wraps round comes right. -/
theorem digit_rest {U u Y q : Nat} (hY : Y < 18446744073709551616) (hU : U < Y) (h : (U * 4294967296 + u) / Y = q) :
    IntKind.u64.wrap (IntKind.u64.wrap (IntKind.u64.wrap ((U : Int) * 4294967296) + (u : Int)) - IntKind.u64.wrap ((q : Int) * (Y : Int))) = (((U * 4294967296 + u) % Y : Nat) : Int) := by
  have h1 := rest_eq h
  have hl := Nat.mod_lt (U * 4294967296 + u) (show 0 < Y by omega)
  have h2 : (q : Int) * (Y : Int) = ((q * Y : Nat) : Int) := (Int.natCast_mul _ _).symm
  rw [h2]
  generalize q * Y = p at *
  generalize (U * 4294967296 + u) % Y = R at *
  simp only [IntKind.wrap_u64]
  omega

theorem half_mul {q y0 : Nat} (h : q < 4294967296) (h' : y0 < 4294967296) : q * y0 < 18446744073709551616 := by
  have : q * y0 ≤ 4294967295 * 4294967295 := Nat.mul_le_mul (by omega) (by omega)
  omega

/-- The shifted numbers, in half words. -/
structure DivS (hi lo y s Y y1 y0 U L u1 u0 : Nat) : Prop where
  eY : IntKind.u64.wrap ((y : Int) * 2 ^ s) = (Y : Int)
  e1 : (Y : Int) / 4294967296 = (y1 : Int)
  e0 : Go.bits BinOp.and IntKind.u64 (Y : Int) 4294967295 = (y0 : Int)
  eU : Go.bits BinOp.or IntKind.u64 (IntKind.u64.wrap ((hi : Int) * 2 ^ s)) ((lo : Int) / 2 ^ (64 - s)) = (U : Int)
  eL : IntKind.u64.wrap ((lo : Int) * 2 ^ s) = (L : Int)
  f1 : (L : Int) / 4294967296 = (u1 : Int)
  f0 : Go.bits BinOp.and IntKind.u64 (L : Int) 4294967295 = (u0 : Int)
  yb : 9223372036854775808 ≤ Y ∧ Y < 18446744073709551616
  ys : Y = y * 2 ^ s
  yd : Y = y1 * 4294967296 + y0 ∧ y0 < 4294967296
  ud : L = u1 * 4294967296 + u0 ∧ u0 < 4294967296 ∧ u1 < 4294967296
  ul : U < Y
  nn : U * 18446744073709551616 + L = (hi * 18446744073709551616 + lo) * 2 ^ s

theorem DivS.of (hi lo y s : Nat) (h1 : hi < y) (h3 : lo < 18446744073709551616) (hs : s ≤ 63) (hY : 9223372036854775808 ≤ y * 2 ^ s) (hY' : y * 2 ^ s < 18446744073709551616) :
    ∃ Y y1 y0 U L u1 u0, DivS hi lo y s Y y1 y0 U L u1 u0 := by
  have hv := shl2_hi hi lo s h3 (by omega)
  have hv0 := shl2_lo hi lo s
  have hN : (hi * 18446744073709551616 + lo) * 2 ^ s < 340282366920938463463374607431768211456 := by
    have a1 : (hi * 18446744073709551616 + lo) * 2 ^ s < (y * 18446744073709551616) * 2 ^ s := Nat.mul_lt_mul_of_pos_right (by omega) (pow_pos2 s)
    rw [Nat.mul_right_comm] at a1
    omega
  have hS : shl2 (hi * 18446744073709551616 + lo) s = (hi * 18446744073709551616 + lo) * 2 ^ s := Nat.mod_eq_of_lt hN
  rw [hS] at hv hv0
  have hUl : (hi * 18446744073709551616 + lo) * 2 ^ s / 18446744073709551616 < y * 2 ^ s := by
    rw [Nat.div_lt_iff_lt_mul (by omega), Nat.mul_right_comm]
    exact Nat.mul_lt_mul_of_pos_right (by omega) (pow_pos2 s)
  refine ⟨y * 2 ^ s, y * 2 ^ s / 4294967296, y * 2 ^ s % 4294967296, (hi * 18446744073709551616 + lo) * 2 ^ s / 18446744073709551616, lo * 2 ^ s % 18446744073709551616, lo * 2 ^ s % 18446744073709551616 / 4294967296, lo * 2 ^ s % 18446744073709551616 % 4294967296, ?_, ?_, ?_, ?_, ?_, ?_, ?_, ?_, ?_, ?_, ?_, ?_, ?_⟩
  · rw [cast_shl, Nat.mod_eq_of_lt hY']
  · omega
  · exact and32 (by omega)
  · rw [cast_shl, cast_div, cast_or _ _ (by omega) (Nat.lt_of_le_of_lt (Nat.div_le_self _ _) h3), hv]
  · exact cast_shl lo s
  · omega
  · exact and32 (by omega)
  · omega
  · rfl
  · omega
  · omega
  · exact hUl
  · rw [← hv0]; omega

theorem div_final {hi lo y s Y y1 y0 U L u1 u0 d d2 R R2 : Nat} (h : DivS hi lo y s Y y1 y0 U L u1 u0) (h1 : (U * 4294967296 + u1) / Y = d) (hR : (U * 4294967296 + u1) % Y = R)
    (h0 : (R * 4294967296 + u0) / Y = d2) (hR2 : (R * 4294967296 + u0) % Y = R2) :
    (hi * 18446744073709551616 + lo) / y = d * 4294967296 + d2 ∧ R2 / 2 ^ s = (hi * 18446744073709551616 + lo) % y := by
  have hY : 0 < Y := by have := h.yb; omega
  obtain ⟨e1, e2⟩ := two_digits hY h1 hR h0
  rw [← h.ud.1, h.nn, h.ys, Nat.mul_div_mul_right _ _ (pow_pos2 s)] at e1
  rw [← h.ud.1, h.nn, h.ys, Nat.mul_mod_mul_right, ← h.ys, hR2] at e2
  exact ⟨e1, by rw [← e2, Nat.mul_div_cancel _ (pow_pos2 s)]⟩

set_option maxHeartbeats 6400000 in
theorem div64_lz (w : World) (hi lo y s Y y1 y0 U L u1 u0 qv rv : Nat) (h0 : 0 < hi) (h1 : hi < y) (hs : s ≤ 63)
    (HZ : Hid (∀ w, Calls Tryd.prog 93 #[.int .u64 (y : Int)] w fun e w' => e = .returned (.int .i64 (s : Int)) ∧ w' = w)) (HS : Hid (DivS hi lo y s Y y1 y0 U L u1 u0))
    (HQV : Hid ((hi * 18446744073709551616 + lo) / y = qv)) (HRV : Hid ((hi * 18446744073709551616 + lo) % y = rv)) :
    Calls Tryd.prog 94 #[.int .u64 (hi : Int), .int .u64 (lo : Int), .int .u64 (y : Int)] w fun e w' => e = .returned (.tuple #[.int .u64 (qv : Int), .int .u64 (rv : Int)]) ∧ w = w' := by
  have t1 : ((y : Int) == 0) = false := beq_eq_false_iff_ne.2 (by omega)
  have t2 : decide ((y : Int) ≤ (hi : Int)) = false := decide_eq_false (by omega)
  have t2' : decide (y ≤ hi) = false := decide_eq_false (by omega)
  have t3 : ((hi : Int) == 0) = false := beq_eq_false_iff_ne.2 (by omega)
  obtain ⟨Yb0, Yb1⟩ := HS.out.yb
  have hyd := HS.out.yd
  have hud := HS.out.ud
  have hUY := HS.out.ul
  have y1b : 2147483648 ≤ y1 ∧ y1 < 4294967296 := by omega
  have INV : Hid (DivInv U u1 y1 y0 (U / y1) (U % y1)) := Lib.hid (DivInv.start (by omega) hud.2.2 y1b.1 y1b.2 hyd.2)
  have t4 : ((y1 : Int) == 0) = false := beq_eq_false_iff_ne.2 (by omega)
  have t5 : ¬ (y1 : Int) = 0 := by omega
  have b1 : y1 < 4294967296 := y1b.2
  have b0 : y0 < 4294967296 := hyd.2
  have c1 : u1 < 4294967296 := hud.2.2
  have c0 : u0 < 4294967296 := hud.2.1
  have bU : U < 18446744073709551616 := by omega
  have HYD := Lib.hid hyd
  have HUD := Lib.hid hud
  have HUY := Lib.hid hUY
  have E1 := HS.out.eY
  have E2 := HS.out.e1
  have E3 := HS.out.e0
  have E4 := HS.out.eU
  have E5 := HS.out.eL
  have E6 := HS.out.f1
  have E7 := HS.out.f0
  have E8 : (U : Int).tdiv (y1 : Int) = ((U / y1 : Nat) : Int) := rfl
  have hqb : U / y1 < 18446744073709551616 := Nat.lt_of_le_of_lt (Nat.div_le_self _ _) bU
  have E9 := trial_rest (y1 := y1) bU
  have hra : U % y1 < 4294967296 := Nat.lt_of_lt_of_le (Nat.mod_lt _ (by omega)) (by omega)
  have hin := fun n h0 h1 => @u64_in n h0 h1
  generalize U / y1 = qa at *
  generalize U % y1 = ra at *
  have E10 : IntKind.u64.wrap (qa : Int) = (qa : Int) := u64_in (by omega) (by omega)
  clear hin hyd hud hUY y1b
  go_enter Tryd.func94, Tryd.ntmps94
  go_wp2_with fail
  refine (HZ.out _).mono ?_
  rintro e w1 ⟨rfl, rfl⟩
  go_wp2
  go_loop [15, 16] (fun qv rv => ∃ q r : Nat, qv = .int .u64 (q : Int) ∧ rv = .int .u64 (r : Int) ∧ DivInv U u1 y1 y0 q r) (fun qv _ => (intOf qv).toNat)
  case atStart => exact ⟨_, _, rfl, rfl, INV.out⟩
  case round =>
    obtain ⟨q, r, rfl, rfl, hinv⟩ := hrel
    have hrl := hinv.rl
    have hql := hinv.ql
    have HI := Lib.hid hinv
    clear hinv
    obtain ⟨z, hz⟩ : ∃ z : Nat, q * y0 = z := ⟨_, rfl⟩
    have HZZ := Lib.hid hz
    have EZ : (q : Int) * (y0 : Int) = (z : Int) := by rw [← hz]; exact (Int.natCast_mul _ _).symm
    by_cases ht : 4294967296 ≤ q ∨ 4294967296 * r + u1 < z
    · have HT : Hid (4294967296 ≤ q ∨ 4294967296 * r + u1 < q * y0) := by rw [hz]; exact Lib.hid ht
      have hz2 : 4294967296 ≤ q ∨ (q < 4294967296 ∧ z < 18446744073709551616) := by
        rcases Nat.lt_or_ge q 4294967296 with h | h
        · right
          exact ⟨h, by rw [← hz]; exact half_mul h b0⟩
        · exact .inl h
      have hq1 := (HI.out.small (by have := HYD.out; have := HUY.out; omega) c1 HT.out).2
      obtain ⟨k, hk⟩ : ∃ k, k = q - 1 := ⟨_, rfl⟩
      have EK : (q : Int) - 1 = (k : Int) := by omega
      have EK2 : IntKind.u64.wrap (k : Int) = (k : Int) := u64_in (by omega) (by omega)
      have HKQ := Lib.hid hk
      clear hz hk
      by_cases hr : r + y1 < 4294967296
      · have HN := Lib.hid (HI.out.next (by have := HYD.out; have := HUY.out; omega) c1 HT.out hr)
        rw [← HKQ.out] at HN
        have qk : Hid (k < q) := Lib.hid (by have := HKQ.out; omega)
        have qr : decide ((4294967296 : Int) ≤ (r : Int) + (y1 : Int)) = false := decide_eq_false (by omega)
        rcases hz2 with hz2 | hz2
        · have qa0 : decide ((4294967296 : Int) ≤ (q : Int)) = true := decide_eq_true (by omega)
          clear ht hz2 hq1
          go_wp2
          go_round
          case rel => exact ⟨k, r + y1, rfl, by go_num, HN.out⟩
          case measure => have := qk.out; simp [intOf]; omega
        · have EZW : IntKind.u64.wrap (z : Int) = (z : Int) := u64_in (by omega) (by omega)
          have qa0 : decide ((4294967296 : Int) ≤ (q : Int)) = false := decide_eq_false (by omega)
          have qa1 : decide ((4294967296 : Int) * (r : Int) + (u1 : Int) < (z : Int)) = true := decide_eq_true (by omega)
          clear ht hz2 hq1
          go_wp2
          go_round
          case rel => exact ⟨k, r + y1, rfl, by go_num, HN.out⟩
          case measure => have := qk.out; simp [intOf]; omega
      · have HQ : Hid ((U * 4294967296 + u1) / Y = k) := Lib.hid (by have h9 := HYD.out; rw [h9.1, HKQ.out]; exact HI.out.brk (by have := HUY.out; omega) c1 b0 HT.out (by omega))
        have qr : decide ((4294967296 : Int) ≤ (r : Int) + (y1 : Int)) = true := decide_eq_true (by omega)
        rcases hz2 with hz2 | hz2
        · have qa0 : decide ((4294967296 : Int) ≤ (q : Int)) = true := decide_eq_true (by omega)
          clear ht hz2 hq1 hr
          go_upto_region 21 with (fail)
          clear EZ hql hrl
          generalize k = dA at *
          obtain ⟨R, hR⟩ : ∃ R, (U * 4294967296 + u1) % Y = R := ⟨_, rfl⟩
          have hRY : R < Y := by rw [← hR]; exact Nat.mod_lt _ (by omega)
          have E20 := digit_rest Yb1 HUY.out HQ.out
          rw [hR] at E20
          have HRA := Lib.hid hR
          have hd1 : (dA : Int) < 4294967296 := by have h9 := digit_lt HUY.out c1; rw [HQ.out] at h9; omega
          have HD1 := Lib.hid hd1
          clear hd1
          have HQA := Lib.hid HQ.out
          have INV2 : Hid (DivInv R u0 y1 y0 (R / y1) (R % y1)) := Lib.hid (DivInv.start (by have := HYD.out; omega) c0 (by have := HYD.out; omega) b1 b0)
          have bR : R < 18446744073709551616 := by omega
          have E21 : (R : Int).tdiv (y1 : Int) = ((R / y1 : Nat) : Int) := rfl
          have hqb2 : R / y1 < 18446744073709551616 := Nat.lt_of_le_of_lt (Nat.div_le_self _ _) bR
          have E22 := trial_rest (y1 := y1) bR
          have hra2 : R % y1 < 4294967296 := Nat.lt_of_lt_of_le (Nat.mod_lt _ (by omega)) (by omega)
          generalize R / y1 = qb at *
          generalize R % y1 = rb at *
          have E23 : IntKind.u64.wrap (qb : Int) = (qb : Int) := u64_in (by omega) (by omega)
          have HRY := Lib.hid hRY
          clear HI HQ hR hRY
          go_wp2
          try clear qa1
          try clear EZW
          try clear EK
          try clear EK2
          try clear HKQ
          try clear HT
          try clear qr
          clear qa0 HZZ E1 E2 E3 E4 E5 E6 E7 E8 E9 E10 E20 E21 E22 E23 INV
          go_loop [18, 16] (fun qv rv => ∃ q r : Nat, qv = .int .u64 (q : Int) ∧ rv = .int .u64 (r : Int) ∧ DivInv R u0 y1 y0 q r) (fun qv _ => (intOf qv).toNat)
          case atStart => exact ⟨_, _, rfl, rfl, INV2.out⟩
          case round =>
            obtain ⟨q, r, rfl, rfl, hinv⟩ := hrel
            have hrl := hinv.rl
            have hql := hinv.ql
            have HI := Lib.hid hinv
            clear hinv
            obtain ⟨z, hz⟩ : ∃ z : Nat, q * y0 = z := ⟨_, rfl⟩
            have HZZ := Lib.hid hz
            have EZ : (q : Int) * (y0 : Int) = (z : Int) := by rw [← hz]; exact (Int.natCast_mul _ _).symm
            by_cases ht : 4294967296 ≤ q ∨ 4294967296 * r + u0 < z
            · have HT : Hid (4294967296 ≤ q ∨ 4294967296 * r + u0 < q * y0) := by rw [hz]; exact Lib.hid ht
              have hz2 : 4294967296 ≤ q ∨ (q < 4294967296 ∧ z < 18446744073709551616) := by
                rcases Nat.lt_or_ge q 4294967296 with h | h
                · right
                  exact ⟨h, by rw [← hz]; exact half_mul h b0⟩
                · exact .inl h
              have hq1 := (HI.out.small (by have := HYD.out; have := HRY.out; omega) c0 HT.out).2
              obtain ⟨k, hk⟩ : ∃ k, k = q - 1 := ⟨_, rfl⟩
              have EK : (q : Int) - 1 = (k : Int) := by omega
              have EK2 : IntKind.u64.wrap (k : Int) = (k : Int) := u64_in (by omega) (by omega)
              have HKQ := Lib.hid hk
              clear hz hk
              by_cases hr : r + y1 < 4294967296
              · have HN := Lib.hid (HI.out.next (by have := HYD.out; have := HRY.out; omega) c0 HT.out hr)
                rw [← HKQ.out] at HN
                have qk : Hid (k < q) := Lib.hid (by have := HKQ.out; omega)
                have qr : decide ((4294967296 : Int) ≤ (r : Int) + (y1 : Int)) = false := decide_eq_false (by omega)
                rcases hz2 with hz2 | hz2
                · have qa0 : decide ((4294967296 : Int) ≤ (q : Int)) = true := decide_eq_true (by omega)
                  clear ht hz2 hq1
                  go_wp2
                  go_round
                  case rel => exact ⟨k, r + y1, rfl, by go_num, HN.out⟩
                  case measure => have := qk.out; simp [intOf]; omega
                · have EZW : IntKind.u64.wrap (z : Int) = (z : Int) := u64_in (by omega) (by omega)
                  have qa0 : decide ((4294967296 : Int) ≤ (q : Int)) = false := decide_eq_false (by omega)
                  have qa1 : decide ((4294967296 : Int) * (r : Int) + (u0 : Int) < (z : Int)) = true := decide_eq_true (by omega)
                  clear ht hz2 hq1
                  go_wp2
                  go_round
                  case rel => exact ⟨k, r + y1, rfl, by go_num, HN.out⟩
                  case measure => have := qk.out; simp [intOf]; omega
              · have HQ : Hid ((R * 4294967296 + u0) / Y = k) := Lib.hid (by have h9 := HYD.out; rw [h9.1, HKQ.out]; exact HI.out.brk (by have := HRY.out; omega) c0 b0 HT.out (by omega))
                have qr : decide ((4294967296 : Int) ≤ (r : Int) + (y1 : Int)) = true := decide_eq_true (by omega)
                rcases hz2 with hz2 | hz2
                · have qa0 : decide ((4294967296 : Int) ≤ (q : Int)) = true := decide_eq_true (by omega)
                  clear ht hz2 hq1 hr
                  go_upto_region 28 with (fail)
                  clear EZ hql hrl
                  obtain ⟨R2, hR2⟩ : ∃ R2, (R * 4294967296 + u0) % Y = R2 := ⟨_, rfl⟩
                  have E30 := digit_rest Yb1 HRY.out HQ.out
                  rw [hR2] at E30
                  have HF := Lib.hid (div_final HS.out HQA.out HRA.out HQ.out hR2)
                  have hd2 : (k : Int) < 4294967296 := by have h9 := digit_lt HRY.out c0; rw [HQ.out] at h9; omega
                  have E31 := cast_div R2 s
                  obtain ⟨m, hm⟩ : ∃ m, R2 / 2 ^ s = m := ⟨_, rfl⟩
                  rw [hm] at E31 HF
                  obtain ⟨Q, hQ⟩ : ∃ Q, dA * 4294967296 + k = Q := ⟨_, rfl⟩
                  rw [hQ] at HF
                  have E32 : IntKind.u64.wrap (IntKind.u64.wrap ((dA : Int) * 4294967296) + (k : Int)) = (Q : Int) := by have h8 := HD1.out; rw [u64_in (n := (dA : Int) * 4294967296) (by omega) (by omega), u64_in (by omega) (by omega)]; omega
                  clear hd2 hm hQ
                  clear HI HQ hR2
                  go_wp2
                  go_ret2
                  exact ⟨ret_ii (by rw [← HQV.out, HF.out.1]) (by rw [← HRV.out, ← HF.out.2]), rfl⟩
                · have EZW : IntKind.u64.wrap (z : Int) = (z : Int) := u64_in (by omega) (by omega)
                  have qa0 : decide ((4294967296 : Int) ≤ (q : Int)) = false := decide_eq_false (by omega)
                  have qa1 : decide ((4294967296 : Int) * (r : Int) + (u0 : Int) < (z : Int)) = true := decide_eq_true (by omega)
                  clear ht hz2 hq1 hr
                  go_upto_region 28 with (fail)
                  clear EZ hql hrl
                  obtain ⟨R2, hR2⟩ : ∃ R2, (R * 4294967296 + u0) % Y = R2 := ⟨_, rfl⟩
                  have E30 := digit_rest Yb1 HRY.out HQ.out
                  rw [hR2] at E30
                  have HF := Lib.hid (div_final HS.out HQA.out HRA.out HQ.out hR2)
                  have hd2 : (k : Int) < 4294967296 := by have h9 := digit_lt HRY.out c0; rw [HQ.out] at h9; omega
                  have E31 := cast_div R2 s
                  obtain ⟨m, hm⟩ : ∃ m, R2 / 2 ^ s = m := ⟨_, rfl⟩
                  rw [hm] at E31 HF
                  obtain ⟨Q, hQ⟩ : ∃ Q, dA * 4294967296 + k = Q := ⟨_, rfl⟩
                  rw [hQ] at HF
                  have E32 : IntKind.u64.wrap (IntKind.u64.wrap ((dA : Int) * 4294967296) + (k : Int)) = (Q : Int) := by have h8 := HD1.out; rw [u64_in (n := (dA : Int) * 4294967296) (by omega) (by omega), u64_in (by omega) (by omega)]; omega
                  clear hd2 hm hQ
                  clear HI HQ hR2
                  go_wp2
                  go_ret2
                  exact ⟨ret_ii (by rw [← HQV.out, HF.out.1]) (by rw [← HRV.out, ← HF.out.2]), rfl⟩
            · have hz2 : q < 4294967296 ∧ z ≤ 4294967296 * r + u0 := by omega
              have HQ : Hid ((R * 4294967296 + u0) / Y = q) := Lib.hid (by have h9 := HYD.out; rw [h9.1]; exact HI.out.done (by omega) (by rw [hz]; exact hz2.2))
              have EZW : IntKind.u64.wrap (z : Int) = (z : Int) := u64_in (by omega) (by omega)
              have qa0 : decide ((4294967296 : Int) ≤ (q : Int)) = false := decide_eq_false (by omega)
              have qa1 : decide ((4294967296 : Int) * (r : Int) + (u0 : Int) < (z : Int)) = false := decide_eq_false (by omega)
              clear ht hz2 hz
              go_upto_region 28 with (fail)
              clear EZ hql hrl
              obtain ⟨R2, hR2⟩ : ∃ R2, (R * 4294967296 + u0) % Y = R2 := ⟨_, rfl⟩
              have E30 := digit_rest Yb1 HRY.out HQ.out
              rw [hR2] at E30
              have HF := Lib.hid (div_final HS.out HQA.out HRA.out HQ.out hR2)
              have hd2 : (q : Int) < 4294967296 := by have h9 := digit_lt HRY.out c0; rw [HQ.out] at h9; omega
              have E31 := cast_div R2 s
              obtain ⟨m, hm⟩ : ∃ m, R2 / 2 ^ s = m := ⟨_, rfl⟩
              rw [hm] at E31 HF
              obtain ⟨Q, hQ⟩ : ∃ Q, dA * 4294967296 + q = Q := ⟨_, rfl⟩
              rw [hQ] at HF
              have E32 : IntKind.u64.wrap (IntKind.u64.wrap ((dA : Int) * 4294967296) + (q : Int)) = (Q : Int) := by have h8 := HD1.out; rw [u64_in (n := (dA : Int) * 4294967296) (by omega) (by omega), u64_in (by omega) (by omega)]; omega
              clear hd2 hm hQ
              clear HI HQ hR2
              go_wp2
              go_ret2
              exact ⟨ret_ii (by rw [← HQV.out, HF.out.1]) (by rw [← HRV.out, ← HF.out.2]), rfl⟩
        · have EZW : IntKind.u64.wrap (z : Int) = (z : Int) := u64_in (by omega) (by omega)
          have qa0 : decide ((4294967296 : Int) ≤ (q : Int)) = false := decide_eq_false (by omega)
          have qa1 : decide ((4294967296 : Int) * (r : Int) + (u1 : Int) < (z : Int)) = true := decide_eq_true (by omega)
          clear ht hz2 hq1 hr
          go_upto_region 21 with (fail)
          clear EZ hql hrl
          generalize k = dA at *
          obtain ⟨R, hR⟩ : ∃ R, (U * 4294967296 + u1) % Y = R := ⟨_, rfl⟩
          have hRY : R < Y := by rw [← hR]; exact Nat.mod_lt _ (by omega)
          have E20 := digit_rest Yb1 HUY.out HQ.out
          rw [hR] at E20
          have HRA := Lib.hid hR
          have hd1 : (dA : Int) < 4294967296 := by have h9 := digit_lt HUY.out c1; rw [HQ.out] at h9; omega
          have HD1 := Lib.hid hd1
          clear hd1
          have HQA := Lib.hid HQ.out
          have INV2 : Hid (DivInv R u0 y1 y0 (R / y1) (R % y1)) := Lib.hid (DivInv.start (by have := HYD.out; omega) c0 (by have := HYD.out; omega) b1 b0)
          have bR : R < 18446744073709551616 := by omega
          have E21 : (R : Int).tdiv (y1 : Int) = ((R / y1 : Nat) : Int) := rfl
          have hqb2 : R / y1 < 18446744073709551616 := Nat.lt_of_le_of_lt (Nat.div_le_self _ _) bR
          have E22 := trial_rest (y1 := y1) bR
          have hra2 : R % y1 < 4294967296 := Nat.lt_of_lt_of_le (Nat.mod_lt _ (by omega)) (by omega)
          generalize R / y1 = qb at *
          generalize R % y1 = rb at *
          have E23 : IntKind.u64.wrap (qb : Int) = (qb : Int) := u64_in (by omega) (by omega)
          have HRY := Lib.hid hRY
          clear HI HQ hR hRY
          go_wp2
          try clear qa1
          try clear EZW
          try clear EK
          try clear EK2
          try clear HKQ
          try clear HT
          try clear qr
          clear qa0 HZZ E1 E2 E3 E4 E5 E6 E7 E8 E9 E10 E20 E21 E22 E23 INV
          go_loop [18, 16] (fun qv rv => ∃ q r : Nat, qv = .int .u64 (q : Int) ∧ rv = .int .u64 (r : Int) ∧ DivInv R u0 y1 y0 q r) (fun qv _ => (intOf qv).toNat)
          case atStart => exact ⟨_, _, rfl, rfl, INV2.out⟩
          case round =>
            obtain ⟨q, r, rfl, rfl, hinv⟩ := hrel
            have hrl := hinv.rl
            have hql := hinv.ql
            have HI := Lib.hid hinv
            clear hinv
            obtain ⟨z, hz⟩ : ∃ z : Nat, q * y0 = z := ⟨_, rfl⟩
            have HZZ := Lib.hid hz
            have EZ : (q : Int) * (y0 : Int) = (z : Int) := by rw [← hz]; exact (Int.natCast_mul _ _).symm
            by_cases ht : 4294967296 ≤ q ∨ 4294967296 * r + u0 < z
            · have HT : Hid (4294967296 ≤ q ∨ 4294967296 * r + u0 < q * y0) := by rw [hz]; exact Lib.hid ht
              have hz2 : 4294967296 ≤ q ∨ (q < 4294967296 ∧ z < 18446744073709551616) := by
                rcases Nat.lt_or_ge q 4294967296 with h | h
                · right
                  exact ⟨h, by rw [← hz]; exact half_mul h b0⟩
                · exact .inl h
              have hq1 := (HI.out.small (by have := HYD.out; have := HRY.out; omega) c0 HT.out).2
              obtain ⟨k, hk⟩ : ∃ k, k = q - 1 := ⟨_, rfl⟩
              have EK : (q : Int) - 1 = (k : Int) := by omega
              have EK2 : IntKind.u64.wrap (k : Int) = (k : Int) := u64_in (by omega) (by omega)
              have HKQ := Lib.hid hk
              clear hz hk
              by_cases hr : r + y1 < 4294967296
              · have HN := Lib.hid (HI.out.next (by have := HYD.out; have := HRY.out; omega) c0 HT.out hr)
                rw [← HKQ.out] at HN
                have qk : Hid (k < q) := Lib.hid (by have := HKQ.out; omega)
                have qr : decide ((4294967296 : Int) ≤ (r : Int) + (y1 : Int)) = false := decide_eq_false (by omega)
                rcases hz2 with hz2 | hz2
                · have qa0 : decide ((4294967296 : Int) ≤ (q : Int)) = true := decide_eq_true (by omega)
                  clear ht hz2 hq1
                  go_wp2
                  go_round
                  case rel => exact ⟨k, r + y1, rfl, by go_num, HN.out⟩
                  case measure => have := qk.out; simp [intOf]; omega
                · have EZW : IntKind.u64.wrap (z : Int) = (z : Int) := u64_in (by omega) (by omega)
                  have qa0 : decide ((4294967296 : Int) ≤ (q : Int)) = false := decide_eq_false (by omega)
                  have qa1 : decide ((4294967296 : Int) * (r : Int) + (u0 : Int) < (z : Int)) = true := decide_eq_true (by omega)
                  clear ht hz2 hq1
                  go_wp2
                  go_round
                  case rel => exact ⟨k, r + y1, rfl, by go_num, HN.out⟩
                  case measure => have := qk.out; simp [intOf]; omega
              · have HQ : Hid ((R * 4294967296 + u0) / Y = k) := Lib.hid (by have h9 := HYD.out; rw [h9.1, HKQ.out]; exact HI.out.brk (by have := HRY.out; omega) c0 b0 HT.out (by omega))
                have qr : decide ((4294967296 : Int) ≤ (r : Int) + (y1 : Int)) = true := decide_eq_true (by omega)
                rcases hz2 with hz2 | hz2
                · have qa0 : decide ((4294967296 : Int) ≤ (q : Int)) = true := decide_eq_true (by omega)
                  clear ht hz2 hq1 hr
                  go_upto_region 28 with (fail)
                  clear EZ hql hrl
                  obtain ⟨R2, hR2⟩ : ∃ R2, (R * 4294967296 + u0) % Y = R2 := ⟨_, rfl⟩
                  have E30 := digit_rest Yb1 HRY.out HQ.out
                  rw [hR2] at E30
                  have HF := Lib.hid (div_final HS.out HQA.out HRA.out HQ.out hR2)
                  have hd2 : (k : Int) < 4294967296 := by have h9 := digit_lt HRY.out c0; rw [HQ.out] at h9; omega
                  have E31 := cast_div R2 s
                  obtain ⟨m, hm⟩ : ∃ m, R2 / 2 ^ s = m := ⟨_, rfl⟩
                  rw [hm] at E31 HF
                  obtain ⟨Q, hQ⟩ : ∃ Q, dA * 4294967296 + k = Q := ⟨_, rfl⟩
                  rw [hQ] at HF
                  have E32 : IntKind.u64.wrap (IntKind.u64.wrap ((dA : Int) * 4294967296) + (k : Int)) = (Q : Int) := by have h8 := HD1.out; rw [u64_in (n := (dA : Int) * 4294967296) (by omega) (by omega), u64_in (by omega) (by omega)]; omega
                  clear hd2 hm hQ
                  clear HI HQ hR2
                  go_wp2
                  go_ret2
                  exact ⟨ret_ii (by rw [← HQV.out, HF.out.1]) (by rw [← HRV.out, ← HF.out.2]), rfl⟩
                · have EZW : IntKind.u64.wrap (z : Int) = (z : Int) := u64_in (by omega) (by omega)
                  have qa0 : decide ((4294967296 : Int) ≤ (q : Int)) = false := decide_eq_false (by omega)
                  have qa1 : decide ((4294967296 : Int) * (r : Int) + (u0 : Int) < (z : Int)) = true := decide_eq_true (by omega)
                  clear ht hz2 hq1 hr
                  go_upto_region 28 with (fail)
                  clear EZ hql hrl
                  obtain ⟨R2, hR2⟩ : ∃ R2, (R * 4294967296 + u0) % Y = R2 := ⟨_, rfl⟩
                  have E30 := digit_rest Yb1 HRY.out HQ.out
                  rw [hR2] at E30
                  have HF := Lib.hid (div_final HS.out HQA.out HRA.out HQ.out hR2)
                  have hd2 : (k : Int) < 4294967296 := by have h9 := digit_lt HRY.out c0; rw [HQ.out] at h9; omega
                  have E31 := cast_div R2 s
                  obtain ⟨m, hm⟩ : ∃ m, R2 / 2 ^ s = m := ⟨_, rfl⟩
                  rw [hm] at E31 HF
                  obtain ⟨Q, hQ⟩ : ∃ Q, dA * 4294967296 + k = Q := ⟨_, rfl⟩
                  rw [hQ] at HF
                  have E32 : IntKind.u64.wrap (IntKind.u64.wrap ((dA : Int) * 4294967296) + (k : Int)) = (Q : Int) := by have h8 := HD1.out; rw [u64_in (n := (dA : Int) * 4294967296) (by omega) (by omega), u64_in (by omega) (by omega)]; omega
                  clear hd2 hm hQ
                  clear HI HQ hR2
                  go_wp2
                  go_ret2
                  exact ⟨ret_ii (by rw [← HQV.out, HF.out.1]) (by rw [← HRV.out, ← HF.out.2]), rfl⟩
            · have hz2 : q < 4294967296 ∧ z ≤ 4294967296 * r + u0 := by omega
              have HQ : Hid ((R * 4294967296 + u0) / Y = q) := Lib.hid (by have h9 := HYD.out; rw [h9.1]; exact HI.out.done (by omega) (by rw [hz]; exact hz2.2))
              have EZW : IntKind.u64.wrap (z : Int) = (z : Int) := u64_in (by omega) (by omega)
              have qa0 : decide ((4294967296 : Int) ≤ (q : Int)) = false := decide_eq_false (by omega)
              have qa1 : decide ((4294967296 : Int) * (r : Int) + (u0 : Int) < (z : Int)) = false := decide_eq_false (by omega)
              clear ht hz2 hz
              go_upto_region 28 with (fail)
              clear EZ hql hrl
              obtain ⟨R2, hR2⟩ : ∃ R2, (R * 4294967296 + u0) % Y = R2 := ⟨_, rfl⟩
              have E30 := digit_rest Yb1 HRY.out HQ.out
              rw [hR2] at E30
              have HF := Lib.hid (div_final HS.out HQA.out HRA.out HQ.out hR2)
              have hd2 : (q : Int) < 4294967296 := by have h9 := digit_lt HRY.out c0; rw [HQ.out] at h9; omega
              have E31 := cast_div R2 s
              obtain ⟨m, hm⟩ : ∃ m, R2 / 2 ^ s = m := ⟨_, rfl⟩
              rw [hm] at E31 HF
              obtain ⟨Q, hQ⟩ : ∃ Q, dA * 4294967296 + q = Q := ⟨_, rfl⟩
              rw [hQ] at HF
              have E32 : IntKind.u64.wrap (IntKind.u64.wrap ((dA : Int) * 4294967296) + (q : Int)) = (Q : Int) := by have h8 := HD1.out; rw [u64_in (n := (dA : Int) * 4294967296) (by omega) (by omega), u64_in (by omega) (by omega)]; omega
              clear hd2 hm hQ
              clear HI HQ hR2
              go_wp2
              go_ret2
              exact ⟨ret_ii (by rw [← HQV.out, HF.out.1]) (by rw [← HRV.out, ← HF.out.2]), rfl⟩
    · have hz2 : q < 4294967296 ∧ z ≤ 4294967296 * r + u1 := by omega
      have HQ : Hid ((U * 4294967296 + u1) / Y = q) := Lib.hid (by have h9 := HYD.out; rw [h9.1]; exact HI.out.done (by omega) (by rw [hz]; exact hz2.2))
      have EZW : IntKind.u64.wrap (z : Int) = (z : Int) := u64_in (by omega) (by omega)
      have qa0 : decide ((4294967296 : Int) ≤ (q : Int)) = false := decide_eq_false (by omega)
      have qa1 : decide ((4294967296 : Int) * (r : Int) + (u1 : Int) < (z : Int)) = false := decide_eq_false (by omega)
      clear ht hz2 hz
      go_upto_region 21 with (fail)
      clear EZ hql hrl
      generalize q = dA at *
      obtain ⟨R, hR⟩ : ∃ R, (U * 4294967296 + u1) % Y = R := ⟨_, rfl⟩
      have hRY : R < Y := by rw [← hR]; exact Nat.mod_lt _ (by omega)
      have E20 := digit_rest Yb1 HUY.out HQ.out
      rw [hR] at E20
      have HRA := Lib.hid hR
      have hd1 : (dA : Int) < 4294967296 := by have h9 := digit_lt HUY.out c1; rw [HQ.out] at h9; omega
      have HD1 := Lib.hid hd1
      clear hd1
      have HQA := Lib.hid HQ.out
      have INV2 : Hid (DivInv R u0 y1 y0 (R / y1) (R % y1)) := Lib.hid (DivInv.start (by have := HYD.out; omega) c0 (by have := HYD.out; omega) b1 b0)
      have bR : R < 18446744073709551616 := by omega
      have E21 : (R : Int).tdiv (y1 : Int) = ((R / y1 : Nat) : Int) := rfl
      have hqb2 : R / y1 < 18446744073709551616 := Nat.lt_of_le_of_lt (Nat.div_le_self _ _) bR
      have E22 := trial_rest (y1 := y1) bR
      have hra2 : R % y1 < 4294967296 := Nat.lt_of_lt_of_le (Nat.mod_lt _ (by omega)) (by omega)
      generalize R / y1 = qb at *
      generalize R % y1 = rb at *
      have E23 : IntKind.u64.wrap (qb : Int) = (qb : Int) := u64_in (by omega) (by omega)
      have HRY := Lib.hid hRY
      clear HI HQ hR hRY
      go_wp2
      try clear qa1
      try clear EZW
      try clear EK
      try clear EK2
      try clear HKQ
      try clear HT
      try clear qr
      clear qa0 HZZ E1 E2 E3 E4 E5 E6 E7 E8 E9 E10 E20 E21 E22 E23 INV
      go_loop [18, 16] (fun qv rv => ∃ q r : Nat, qv = .int .u64 (q : Int) ∧ rv = .int .u64 (r : Int) ∧ DivInv R u0 y1 y0 q r) (fun qv _ => (intOf qv).toNat)
      case atStart => exact ⟨_, _, rfl, rfl, INV2.out⟩
      case round =>
        obtain ⟨q, r, rfl, rfl, hinv⟩ := hrel
        have hrl := hinv.rl
        have hql := hinv.ql
        have HI := Lib.hid hinv
        clear hinv
        obtain ⟨z, hz⟩ : ∃ z : Nat, q * y0 = z := ⟨_, rfl⟩
        have HZZ := Lib.hid hz
        have EZ : (q : Int) * (y0 : Int) = (z : Int) := by rw [← hz]; exact (Int.natCast_mul _ _).symm
        by_cases ht : 4294967296 ≤ q ∨ 4294967296 * r + u0 < z
        · have HT : Hid (4294967296 ≤ q ∨ 4294967296 * r + u0 < q * y0) := by rw [hz]; exact Lib.hid ht
          have hz2 : 4294967296 ≤ q ∨ (q < 4294967296 ∧ z < 18446744073709551616) := by
            rcases Nat.lt_or_ge q 4294967296 with h | h
            · right
              exact ⟨h, by rw [← hz]; exact half_mul h b0⟩
            · exact .inl h
          have hq1 := (HI.out.small (by have := HYD.out; have := HRY.out; omega) c0 HT.out).2
          obtain ⟨k, hk⟩ : ∃ k, k = q - 1 := ⟨_, rfl⟩
          have EK : (q : Int) - 1 = (k : Int) := by omega
          have EK2 : IntKind.u64.wrap (k : Int) = (k : Int) := u64_in (by omega) (by omega)
          have HKQ := Lib.hid hk
          clear hz hk
          by_cases hr : r + y1 < 4294967296
          · have HN := Lib.hid (HI.out.next (by have := HYD.out; have := HRY.out; omega) c0 HT.out hr)
            rw [← HKQ.out] at HN
            have qk : Hid (k < q) := Lib.hid (by have := HKQ.out; omega)
            have qr : decide ((4294967296 : Int) ≤ (r : Int) + (y1 : Int)) = false := decide_eq_false (by omega)
            rcases hz2 with hz2 | hz2
            · have qa0 : decide ((4294967296 : Int) ≤ (q : Int)) = true := decide_eq_true (by omega)
              clear ht hz2 hq1
              go_wp2
              go_round
              case rel => exact ⟨k, r + y1, rfl, by go_num, HN.out⟩
              case measure => have := qk.out; simp [intOf]; omega
            · have EZW : IntKind.u64.wrap (z : Int) = (z : Int) := u64_in (by omega) (by omega)
              have qa0 : decide ((4294967296 : Int) ≤ (q : Int)) = false := decide_eq_false (by omega)
              have qa1 : decide ((4294967296 : Int) * (r : Int) + (u0 : Int) < (z : Int)) = true := decide_eq_true (by omega)
              clear ht hz2 hq1
              go_wp2
              go_round
              case rel => exact ⟨k, r + y1, rfl, by go_num, HN.out⟩
              case measure => have := qk.out; simp [intOf]; omega
          · have HQ : Hid ((R * 4294967296 + u0) / Y = k) := Lib.hid (by have h9 := HYD.out; rw [h9.1, HKQ.out]; exact HI.out.brk (by have := HRY.out; omega) c0 b0 HT.out (by omega))
            have qr : decide ((4294967296 : Int) ≤ (r : Int) + (y1 : Int)) = true := decide_eq_true (by omega)
            rcases hz2 with hz2 | hz2
            · have qa0 : decide ((4294967296 : Int) ≤ (q : Int)) = true := decide_eq_true (by omega)
              clear ht hz2 hq1 hr
              go_upto_region 28 with (fail)
              clear EZ hql hrl
              obtain ⟨R2, hR2⟩ : ∃ R2, (R * 4294967296 + u0) % Y = R2 := ⟨_, rfl⟩
              have E30 := digit_rest Yb1 HRY.out HQ.out
              rw [hR2] at E30
              have HF := Lib.hid (div_final HS.out HQA.out HRA.out HQ.out hR2)
              have hd2 : (k : Int) < 4294967296 := by have h9 := digit_lt HRY.out c0; rw [HQ.out] at h9; omega
              have E31 := cast_div R2 s
              obtain ⟨m, hm⟩ : ∃ m, R2 / 2 ^ s = m := ⟨_, rfl⟩
              rw [hm] at E31 HF
              obtain ⟨Q, hQ⟩ : ∃ Q, dA * 4294967296 + k = Q := ⟨_, rfl⟩
              rw [hQ] at HF
              have E32 : IntKind.u64.wrap (IntKind.u64.wrap ((dA : Int) * 4294967296) + (k : Int)) = (Q : Int) := by have h8 := HD1.out; rw [u64_in (n := (dA : Int) * 4294967296) (by omega) (by omega), u64_in (by omega) (by omega)]; omega
              clear hd2 hm hQ
              clear HI HQ hR2
              go_wp2
              go_ret2
              exact ⟨ret_ii (by rw [← HQV.out, HF.out.1]) (by rw [← HRV.out, ← HF.out.2]), rfl⟩
            · have EZW : IntKind.u64.wrap (z : Int) = (z : Int) := u64_in (by omega) (by omega)
              have qa0 : decide ((4294967296 : Int) ≤ (q : Int)) = false := decide_eq_false (by omega)
              have qa1 : decide ((4294967296 : Int) * (r : Int) + (u0 : Int) < (z : Int)) = true := decide_eq_true (by omega)
              clear ht hz2 hq1 hr
              go_upto_region 28 with (fail)
              clear EZ hql hrl
              obtain ⟨R2, hR2⟩ : ∃ R2, (R * 4294967296 + u0) % Y = R2 := ⟨_, rfl⟩
              have E30 := digit_rest Yb1 HRY.out HQ.out
              rw [hR2] at E30
              have HF := Lib.hid (div_final HS.out HQA.out HRA.out HQ.out hR2)
              have hd2 : (k : Int) < 4294967296 := by have h9 := digit_lt HRY.out c0; rw [HQ.out] at h9; omega
              have E31 := cast_div R2 s
              obtain ⟨m, hm⟩ : ∃ m, R2 / 2 ^ s = m := ⟨_, rfl⟩
              rw [hm] at E31 HF
              obtain ⟨Q, hQ⟩ : ∃ Q, dA * 4294967296 + k = Q := ⟨_, rfl⟩
              rw [hQ] at HF
              have E32 : IntKind.u64.wrap (IntKind.u64.wrap ((dA : Int) * 4294967296) + (k : Int)) = (Q : Int) := by have h8 := HD1.out; rw [u64_in (n := (dA : Int) * 4294967296) (by omega) (by omega), u64_in (by omega) (by omega)]; omega
              clear hd2 hm hQ
              clear HI HQ hR2
              go_wp2
              go_ret2
              exact ⟨ret_ii (by rw [← HQV.out, HF.out.1]) (by rw [← HRV.out, ← HF.out.2]), rfl⟩
        · have hz2 : q < 4294967296 ∧ z ≤ 4294967296 * r + u0 := by omega
          have HQ : Hid ((R * 4294967296 + u0) / Y = q) := Lib.hid (by have h9 := HYD.out; rw [h9.1]; exact HI.out.done (by omega) (by rw [hz]; exact hz2.2))
          have EZW : IntKind.u64.wrap (z : Int) = (z : Int) := u64_in (by omega) (by omega)
          have qa0 : decide ((4294967296 : Int) ≤ (q : Int)) = false := decide_eq_false (by omega)
          have qa1 : decide ((4294967296 : Int) * (r : Int) + (u0 : Int) < (z : Int)) = false := decide_eq_false (by omega)
          clear ht hz2 hz
          go_upto_region 28 with (fail)
          clear EZ hql hrl
          obtain ⟨R2, hR2⟩ : ∃ R2, (R * 4294967296 + u0) % Y = R2 := ⟨_, rfl⟩
          have E30 := digit_rest Yb1 HRY.out HQ.out
          rw [hR2] at E30
          have HF := Lib.hid (div_final HS.out HQA.out HRA.out HQ.out hR2)
          have hd2 : (q : Int) < 4294967296 := by have h9 := digit_lt HRY.out c0; rw [HQ.out] at h9; omega
          have E31 := cast_div R2 s
          obtain ⟨m, hm⟩ : ∃ m, R2 / 2 ^ s = m := ⟨_, rfl⟩
          rw [hm] at E31 HF
          obtain ⟨Q, hQ⟩ : ∃ Q, dA * 4294967296 + q = Q := ⟨_, rfl⟩
          rw [hQ] at HF
          have E32 : IntKind.u64.wrap (IntKind.u64.wrap ((dA : Int) * 4294967296) + (q : Int)) = (Q : Int) := by have h8 := HD1.out; rw [u64_in (n := (dA : Int) * 4294967296) (by omega) (by omega), u64_in (by omega) (by omega)]; omega
          clear hd2 hm hQ
          clear HI HQ hR2
          go_wp2
          go_ret2
          exact ⟨ret_ii (by rw [← HQV.out, HF.out.1]) (by rw [← HRV.out, ← HF.out.2]), rfl⟩

set_option maxHeartbeats 800000 in
theorem div64_zero (w : World) (lo y q r : Nat) (h1 : 0 < y) (h2 : y < 18446744073709551616) (h3 : lo < 18446744073709551616) (hq : Hid (lo / y = q)) (hr : Hid (lo % y = r)) :
    Calls Tryd.prog 94 #[.int .u64 ((0 : Nat) : Int), .int .u64 (lo : Int), .int .u64 (y : Int)] w fun e w' => e = .returned (.tuple #[.int .u64 (q : Int), .int .u64 (r : Int)]) ∧ ∃ n, w' = w.drewN n := by
  have t1 : ((y : Int) == 0) = false := beq_eq_false_iff_ne.2 (by omega)
  have t1' : ¬ (y : Int) = 0 := by omega
  have t2 : decide ((y : Int) ≤ 0) = false := decide_eq_false (by omega)
  have e1 : (lo : Int).tdiv (y : Int) = (q : Int) := by rw [← hq.out]; rfl
  have e2 : (lo : Int).tmod (y : Int) = (r : Int) := by rw [← hr.out]; rfl
  have bq : q ≤ lo := by rw [← hq.out]; exact Nat.div_le_self _ _
  have br : r ≤ lo := by rw [← hr.out]; exact Nat.mod_le _ _
  have e3 : IntKind.u64.wrap (q : Int) = (q : Int) := u64_in (by omega) (by omega)
  have e4 : IntKind.u64.wrap (r : Int) = (r : Int) := u64_in (by omega) (by omega)
  clear bq br
  go_enter Tryd.func94, Tryd.ntmps94
  go_wp2
  go_quiet (fail)
  go_wp2
  go_ret2
  exact ⟨rfl, _, rfl⟩

theorem div64_any (w : World) (hi lo y : Nat) (h1 : hi < y) (h2 : y < 18446744073709551616) (h3 : lo < 18446744073709551616) :
    Calls Tryd.prog 94 #[.int .u64 (hi : Int), .int .u64 (lo : Int), .int .u64 (y : Int)] w fun e w' => e = .returned (.tuple #[.int .u64 (((hi * 18446744073709551616 + lo) / y : Nat) : Int), .int .u64 (((hi * 18446744073709551616 + lo) % y : Nat) : Int)]) ∧ ∃ n, w' = w.drewN n := by
  rcases Nat.eq_zero_or_pos hi with rfl | h0
  · rw [Nat.zero_mul, Nat.zero_add]
    exact div64_zero w lo y _ _ (by omega) h2 h3 rfl rfl
  · obtain ⟨b1, b2, b3⟩ := Lib.bitLenAux_bounds 64 y (by omega) (by omega)
    have b4 : Lib.bitLen y ≤ 64 := Lib.bitLen_le y 64 (by omega) (by omega)
    have hb : Lib.bitLenAux 64 y = Lib.bitLen y := rfl
    rw [hb] at b1 b2 b3
    obtain ⟨s, hs⟩ : ∃ s, s = 64 - Lib.bitLen y := ⟨_, rfl⟩
    have hs63 : s ≤ 63 := by omega
    have l1 : 2 ^ (Lib.bitLen y - 1) * 2 ^ s ≤ y * 2 ^ s := Nat.mul_le_mul_right _ b2
    have l2 : y * 2 ^ s < 2 ^ Lib.bitLen y * 2 ^ s := Nat.mul_lt_mul_of_pos_right b3 (pow_pos2 s)
    rw [← Nat.pow_add] at l1 l2
    rw [show Lib.bitLen y - 1 + s = 63 by omega] at l1
    rw [show Lib.bitLen y + s = 64 by omega] at l2
    obtain ⟨Y, y1, y0, U, L, u1, u0, hS⟩ := DivS.of hi lo y s h1 h3 hs63 l1 l2
    refine (div64_lz w hi lo y s Y y1 y0 U L u1 u0 _ _ h0 h1 hs63 (Lib.hid fun w => ?_) (Lib.hid hS) rfl rfl).mono ?_
    · have := Tryd.bits_LeadingZeros64 (y : Int) w (by omega) (by omega)
      rw [Int.toNat_natCast, show (64 : Int) - (Lib.bitLen y : Int) = (s : Int) by omega] at this
      exact this
    · rintro e w' ⟨h, rfl⟩
      exact ⟨h, 0, rfl⟩
end Go.Proofs.YtafboimlchjnaaaDoor
