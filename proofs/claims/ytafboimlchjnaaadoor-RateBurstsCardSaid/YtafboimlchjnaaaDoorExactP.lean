/- Contract of package real: Exact. -/
import Derived.Test.YtafboimlchjnaaaDoorWMath
import Derived.Test.YtafboimlchjnaaaDoorShelf
import Derived.WalkArith
namespace Go.Proofs.YtafboimlchjnaaaDoor
open Go.RowKit
set_option maxRecDepth 100000

theorem ctz_tz {m : Nat} (h0 : 0 < m) (h : m < 18446744073709551616) : Lib.ctz 64 m = tz 64 m := by
  obtain ⟨k, h1, _⟩ := Lib.ctzFrom_spec 64 m h0 h
  have h2 : Lib.ctz 64 m = Lib.ctzFrom 64 m := by unfold Lib.ctz; rw [if_neg (by omega)]
  rw [h2]
  exact (oddM_of (m0 := m) (m := 2 * k + 1) (k := Lib.ctzFrom 64 m) (by rw [Nat.mul_comm]; exact h1) (by omega) h).2.symm
theorem tz_lt {m : Nat} (h0 : 0 < m) (h : m < 18446744073709551616) : tz 64 m ≤ 63 := by
  have h1 := tz_spec 64 m h0 h
  have h2 : 0 < m / 2 ^ tz 64 m := by
    have := h1.1
    generalize m / 2 ^ tz 64 m = z at this
    omega
  exact ex_bound (m0 := m) (m := m / 2 ^ tz 64 m) h1.2.symm h2 h
theorem or52 {f : Nat} (h : f < 4503599627370496) : Go.bits BinOp.or IntKind.u64 (f : Int) 4503599627370496 = ((f + 4503599627370496 : Nat) : Int) := by
  have h1 := bits_or_u64_nat f 4503599627370496 (by omega) (by omega)
  have h2 : f ||| 4503599627370496 = f + 4503599627370496 := by
    have h3 := Nat.two_pow_add_eq_or_of_lt (i := 52) (b := f) (by omega) 1
    have h4 : (2 : Nat) ^ 52 * 1 = 4503599627370496 := by decide
    rw [h4] at h3
    rw [Nat.or_comm, ← h3]; omega
  rw [h2] at h1
  exact h1

def ExP (w : World) (v : Value) (e : Ending) (w' : World) : Prop := e = .returned v ∧ ∃ n, w' = w.drewN n

set_option maxHeartbeats 1600000 in
theorem exactP_nan (w : World) (b x f k : Nat) (hb : b ≤ 18446744073709551615) (hx : szB b / 4503599627370496 = x) (hf : szB b % 4503599627370496 = f) (hk : kindB b = k) (h4 : k = 4) :
    Calls Tryd.prog 17 #[.float .f64 b] w (ExP w (.tuple #[.bool false, .int .u64 0, .int .i64 0, .int .i64 4])) := by
  have HC := apart_any w b hb
  rw [hx, hf] at HC
  have HK := kindP_any w b hb
  rw [hk] at HK
  have HCC := Lib.hid HC
  have HKK := Lib.hid HK
  clear HC HK hx hf hk
  have q4 : ((k : Int) == 4) = true := beq_iff_eq.2 (by omega)
  clear h4
  go_enter Tryd.func17, Tryd.ntmps17
  go_wp2_with fail
  refine HCC.out.mono ?_
  rintro e w1 ⟨rfl, rfl⟩
  go_wp2_with fail
  refine HKK.out.mono ?_
  rintro e w1 ⟨rfl, rfl⟩
  go_wp2
  refine bodyPost_ret (results_tmp4 rfl _ _ _) rfl ?_
  exact ⟨rfl, 0, rfl⟩

set_option maxHeartbeats 1600000 in
theorem exactP_inf (w : World) (b x f k : Nat) (hb : b ≤ 18446744073709551615) (hx : szB b / 4503599627370496 = x) (hf : szB b % 4503599627370496 = f) (hk : kindB b = k) (h4 : k = 3) :
    Calls Tryd.prog 17 #[.float .f64 b] w (ExP w (.tuple #[.bool false, .int .u64 0, .int .i64 0, .int .i64 5])) := by
  have HC := apart_any w b hb
  rw [hx, hf] at HC
  have HK := kindP_any w b hb
  rw [hk] at HK
  have HCC := Lib.hid HC
  have HKK := Lib.hid HK
  clear HC HK hx hf hk
  have q4 : ((k : Int) == 4) = false := beq_eq_false_iff_ne.2 (by omega)
  have q3 : ((k : Int) == 3) = true := beq_iff_eq.2 (by omega)
  clear h4
  go_enter Tryd.func17, Tryd.ntmps17
  go_wp2_with fail
  refine HCC.out.mono ?_
  rintro e w1 ⟨rfl, rfl⟩
  go_wp2_with fail
  refine HKK.out.mono ?_
  rintro e w1 ⟨rfl, rfl⟩
  go_wp2
  refine bodyPost_ret (results_tmp4 rfl _ _ _) rfl ?_
  exact ⟨rfl, 0, rfl⟩

set_option maxHeartbeats 1600000 in
theorem exactP_zero (w : World) (b x f k : Nat) (hb : b ≤ 18446744073709551615) (hx : szB b / 4503599627370496 = x) (hf : szB b % 4503599627370496 = f) (hk : kindB b = k) (s : Bool) (hs : negB b = s) (h4 : k = 0) :
    Calls Tryd.prog 17 #[.float .f64 b] w (ExP w (.tuple #[.bool s, .int .u64 0, .int .i64 0, .int .i64 0])) := by
  have HC := apart_any w b hb
  rw [hx, hf] at HC
  have HK := kindP_any w b hb
  rw [hk] at HK
  have HCC := Lib.hid HC
  have HKK := Lib.hid HK
  clear HC HK hx hf hk
  have HM := minusP_any w b hb
  rw [hs] at HM
  have HMM := Lib.hid HM
  clear HM hs
  have q4 : ((k : Int) == 4) = false := beq_eq_false_iff_ne.2 (by omega)
  have q3 : ((k : Int) == 3) = false := beq_eq_false_iff_ne.2 (by omega)
  have q0 : ((k : Int) == 0) = true := beq_iff_eq.2 (by omega)
  clear h4
  go_enter Tryd.func17, Tryd.ntmps17
  go_wp2_with fail
  refine HCC.out.mono ?_
  rintro e w1 ⟨rfl, rfl⟩
  go_wp2_with fail
  refine HKK.out.mono ?_
  rintro e w1 ⟨rfl, rfl⟩
  go_wp2_with fail
  refine HMM.out.mono ?_
  rintro e w1 ⟨rfl, rfl⟩
  go_wp2
  refine bodyPost_ret (results_tmp4 rfl _ _ _) rfl ?_
  exact ⟨rfl, 0, rfl⟩

set_option maxHeartbeats 1600000 in
theorem exactP_sub (w : World) (b x f k : Nat) (hb : b ≤ 18446744073709551615) (hx : szB b / 4503599627370496 = x) (hf : szB b % 4503599627370496 = f) (hk : kindB b = k) (s : Bool) (hs : negB b = s) (h4 : k = 1) (m t mo : Nat) (e0 e1 : Int) (hT : Tab w) (hm0 : 0 < m) (hm1 : m < 9007199254740992) (ht : tz 64 m = t) (hmo : m / 2 ^ t = mo) (he : -1074 ≤ e0 ∧ e0 ≤ 972) (he1 : e0 + t = e1) (hmf : f = m) (hxe : e0 = -1074) :
    Calls Tryd.prog 17 #[.float .f64 b] w (ExP w (.tuple #[.bool s, .int .u64 (mo : Int), .int .i64 e1, .int .i64 0])) := by
  have HC := apart_any w b hb
  rw [hx, hf] at HC
  have HK := kindP_any w b hb
  rw [hk] at HK
  have HCC := Lib.hid HC
  have HKK := Lib.hid HK
  clear HC HK hx hf hk
  have HMM := Lib.hid (fun w => (by have := (minusP_any w b hb).mono fun _ _ h => (⟨h.1, h.2.symm⟩ : _ ∧ _); rwa [hs] at this : Calls Tryd.prog 22 #[.float .f64 b] w fun e w' => e = .returned (.bool s) ∧ w' = w))
  clear hs
  have q4 : ((k : Int) == 4) = false := beq_eq_false_iff_ne.2 (by omega)
  have q3 : ((k : Int) == 3) = false := beq_eq_false_iff_ne.2 (by omega)
  have q0 : ((k : Int) == 0) = false := beq_eq_false_iff_ne.2 (by omega)
  have q2 : ((k : Int) == 2) = false := beq_eq_false_iff_ne.2 (by omega)
  have HZ := tz64_any m (by omega) w hT
  rw [ctz_tz hm0 (by omega), ht] at HZ
  have HZZ := Lib.hid HZ
  have t63 : (t : Int) ≤ 63 := by have := tz_lt hm0 (by omega); omega
  have t0 : (0 : Int) ≤ t := by omega
  have ES : (m : Int) / 2 ^ t = (mo : Int) := by rw [cast_div, hmo]
  have EA : e0 + (t : Int) = e1 := he1
  have EW : IntKind.i64.wrap e1 = e1 := IntWalk.i64_in _ (by omega)
  have EW2 : wrap64 e1 = e1 := by unfold wrap64; omega
  subst hmf
  subst hxe
  clear HZ ht hmo he1 h4 hm0 hm1 he hT
  go_enter Tryd.func17, Tryd.ntmps17
  go_wp2_with fail
  refine HCC.out.mono ?_
  rintro e w1 ⟨rfl, rfl⟩
  go_wp2_with fail
  refine HKK.out.mono ?_
  rintro e w1 ⟨rfl, rfl⟩
  go_wp2_with fail
  refine HZZ.out.mono ?_
  rintro e w1 ⟨rfl, rfl⟩
  go_wp2_with fail
  go_quiet ((go_at_call 22; exact Calls.quiet_of_same (HMM.out _)))
  go_wp2
  refine bodyPost_ret (results_tmp4 rfl _ _ _) rfl ?_
  exact ⟨rfl, _, rfl⟩

set_option maxHeartbeats 1600000 in
theorem exactP_norm (w : World) (b x f k : Nat) (hb : b ≤ 18446744073709551615) (hx : szB b / 4503599627370496 = x) (hf : szB b % 4503599627370496 = f) (hk : kindB b = k) (s : Bool) (hs : negB b = s) (h4 : k = 2) (m t mo : Nat) (e0 e1 : Int) (hT : Tab w) (hm0 : 0 < m) (ht : tz 64 m = t) (hmo : m / 2 ^ t = mo) (he : -1074 ≤ e0 ∧ e0 ≤ 972) (he1 : e0 + t = e1) (hf1 : f < 4503599627370496) (hmf : f + 4503599627370496 = m) (hxe : (x : Int) - 1075 = e0) (_hx2 : x ≤ 2047) :
    Calls Tryd.prog 17 #[.float .f64 b] w (ExP w (.tuple #[.bool s, .int .u64 (mo : Int), .int .i64 e1, .int .i64 0])) := by
  have HC := apart_any w b hb
  rw [hx, hf] at HC
  have HK := kindP_any w b hb
  rw [hk] at HK
  have HCC := Lib.hid HC
  have HKK := Lib.hid HK
  clear HC HK hx hf hk
  have HMM := Lib.hid (fun w => (by have := (minusP_any w b hb).mono fun _ _ h => (⟨h.1, h.2.symm⟩ : _ ∧ _); rwa [hs] at this : Calls Tryd.prog 22 #[.float .f64 b] w fun e w' => e = .returned (.bool s) ∧ w' = w))
  clear hs
  have q4 : ((k : Int) == 4) = false := beq_eq_false_iff_ne.2 (by omega)
  have q3 : ((k : Int) == 3) = false := beq_eq_false_iff_ne.2 (by omega)
  have q0 : ((k : Int) == 0) = false := beq_eq_false_iff_ne.2 (by omega)
  have q2 : ((k : Int) == 2) = true := beq_iff_eq.2 (by omega)
  have HZ := tz64_any m (by omega) w hT
  rw [ctz_tz hm0 (by omega), ht] at HZ
  have HZZ := Lib.hid HZ
  have t63 : (t : Int) ≤ 63 := by have := tz_lt hm0 (by omega); omega
  have t0 : (0 : Int) ≤ t := by omega
  have ES : (m : Int) / 2 ^ t = (mo : Int) := by rw [cast_div, hmo]
  have EA : e0 + (t : Int) = e1 := he1
  have EW : IntKind.i64.wrap e1 = e1 := IntWalk.i64_in _ (by omega)
  have EW2 : wrap64 e1 = e1 := by unfold wrap64; omega
  have EO := or52 hf1
  rw [hmf] at EO
  have EX := hxe
  have hx0 : (0 : Int) ≤ x := by omega
  have hx3 : (x : Int) ≤ 2047 := by omega
  clear HZ ht hmo he1 hmf hxe h4 hm0 he hf1 _hx2 hT
  go_enter Tryd.func17, Tryd.ntmps17
  go_wp2_with fail
  refine HCC.out.mono ?_
  rintro e w1 ⟨rfl, rfl⟩
  go_wp2_with fail
  refine HKK.out.mono ?_
  rintro e w1 ⟨rfl, rfl⟩
  go_wp2_with fail
  refine HZZ.out.mono ?_
  rintro e w1 ⟨rfl, rfl⟩
  go_wp2_with fail
  go_quiet ((go_at_call 22; exact Calls.quiet_of_same (HMM.out _)))
  go_wp2
  refine bodyPost_ret (results_tmp4 rfl _ _ _) rfl ?_
  exact ⟨rfl, _, rfl⟩

theorem exactP_any (w : World) (b : Nat) (hb : b ≤ 18446744073709551615) (hT : Tab w) : Calls Tryd.prog 17 #[.float .f64 b] w (ExP w (exactV b)) := by
  have hsz := szB_lt b
  obtain ⟨s, hs⟩ : ∃ s, s = szB b := ⟨_, rfl⟩
  have hc : s = 0 ∨ (0 < s ∧ s < 4503599627370496) ∨ (4503599627370496 ≤ s ∧ s < 9218868437227405312) ∨ s = 9218868437227405312 ∨ 9218868437227405312 < s := by omega
  have hkd : kindB b = kindS s := by unfold kindB; rw [hs]
  rcases hc with h | h | h | h | h
  · have hk : kindB b = 0 := by rw [hkd, h]; rfl
    have e : exactV b = .tuple #[.bool (negB b), .int .u64 0, .int .i64 0, .int .i64 0] := by
      unfold exactV; rw [if_neg (by omega), if_neg (by omega), if_pos (by rw [← hs, h]; rfl)]
    rw [e]
    exact exactP_zero w b _ _ 0 hb rfl rfl hk _ rfl rfl
  · have hk : kindB b = 1 := by rw [hkd]; exact kindS_1 h.1 h.2
    have hm : manS s = s := by unfold manS; rw [if_pos (by omega)]; omega
    have he : expS s = -1074 := by unfold expS; rw [if_pos (by omega)]
    have e : exactV b = .tuple #[.bool (negB b), .int .u64 (oddM s : Int), .int .i64 (-1074 + tz 64 s), .int .i64 0] := by
      unfold exactV; rw [if_neg (by omega), if_neg (by omega), ← hs, hm, he, if_neg (by omega)]
    rw [e]
    exact exactP_sub w b _ _ 1 hb rfl rfl hk _ rfl rfl s _ _ (-1074) _ hT h.1 (by omega) rfl rfl (by omega) rfl (by rw [← hs]; omega) rfl
  · have hk : kindB b = 2 := by rw [hkd]; exact kindS_2 h.1 h.2
    have hm : manS s = s % 4503599627370496 + 4503599627370496 := by unfold manS; rw [if_neg (by omega)]
    have he : expS s = ((s / 4503599627370496 : Nat) : Int) - 1075 := by unfold expS; rw [if_neg (by omega)]
    have e : exactV b = .tuple #[.bool (negB b), .int .u64 (oddM (manS s) : Int), .int .i64 (expS s + tz 64 (manS s)), .int .i64 0] := by
      unfold exactV; rw [if_neg (by omega), if_neg (by omega), ← hs, if_neg (by omega)]
    rw [e]
    exact exactP_norm w b _ _ 2 hb rfl rfl hk _ rfl rfl (manS s) _ _ (expS s) _ hT (by omega) rfl rfl (by omega) rfl (by omega) (by rw [← hs]; omega) (by rw [← hs]; omega) (by rw [← hs]; omega)
  · have hk : kindB b = 3 := by rw [hkd]; exact kindS_3 h
    have e : exactV b = .tuple #[.bool false, .int .u64 0, .int .i64 0, .int .i64 5] := by unfold exactV; rw [if_neg (by omega), if_pos hk]
    rw [e]
    exact exactP_inf w b _ _ 3 hb rfl rfl hk rfl
  · have hk : kindB b = 4 := by rw [hkd]; exact kindS_4 h
    have e : exactV b = .tuple #[.bool false, .int .u64 0, .int .i64 0, .int .i64 4] := by unfold exactV; rw [if_pos hk]
    rw [e]
    exact exactP_nan w b _ _ 4 hb rfl rfl hk rfl
end Go.Proofs.YtafboimlchjnaaaDoor
