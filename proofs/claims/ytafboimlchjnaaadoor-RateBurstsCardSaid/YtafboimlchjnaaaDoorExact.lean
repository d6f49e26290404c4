/- Contract: the document's Exact: a float as an odd number and a power of two. -/
import Derived.Test.YtafboimlchjnaaaDoorOrd
namespace Go.Proofs.YtafboimlchjnaaaDoor
open Go.RowKit
set_option maxRecDepth 100000

theorem results_tmp4 {fn : Func} {t u v x : Tmp} (h : fn.results = #[.tmp t, .tmp u, .tmp v, .tmp x]) (tmps : Array Value) (P : Program) (w : World) :
    (results fn tmps).run P w = .ok (.tuple #[tmps.getD t undef, tmps.getD u undef, tmps.getD v undef, tmps.getD x undef]) w := by
  simp [results, h]

/-- How often a number is divided by two, f times at most. -/
def tz : Nat → Nat → Nat
  | 0, _ => 0
  | f + 1, m => if m % 2 = 0 then tz f (m / 2) + 1 else 0

theorem tz_spec (f m : Nat) (h0 : 0 < m) (hm : m < 2 ^ f) : m / 2 ^ tz f m % 2 = 1 ∧ m / 2 ^ tz f m * 2 ^ tz f m = m := by
  induction f generalizing m with
  | zero => omega
  | succ f ih =>
    unfold tz
    by_cases h : m % 2 = 0
    · rw [if_pos h]
      have h1 := ih (m / 2) (by omega) (by rw [Nat.pow_succ] at hm; omega)
      rw [Nat.pow_succ, Nat.mul_comm (2 ^ tz f (m / 2)) 2, ← Nat.div_div_eq_div_mul]
      refine ⟨h1.1, ?_⟩
      rw [Nat.mul_comm 2, ← Nat.mul_assoc, h1.2]
      omega
    · rw [if_neg h]
      simp
      omega

/-- The odd part, and the power, are one alone. -/
theorem odd_unique {a b i j : Nat} (ha : a % 2 = 1) (hb : b % 2 = 1) (h : a * 2 ^ i = b * 2 ^ j) : a = b ∧ i = j := by
  induction i generalizing j with
  | zero =>
    rcases j with _ | j
    · simp at h; exact ⟨h, rfl⟩
    · rw [Nat.pow_succ] at h
      have : b * (2 ^ j * 2) = 2 * (b * 2 ^ j) := by rw [← Nat.mul_assoc, Nat.mul_comm]
      omega
  | succ i ih =>
    rcases j with _ | j
    · rw [Nat.pow_succ] at h
      have : a * (2 ^ i * 2) = 2 * (a * 2 ^ i) := by rw [← Nat.mul_assoc, Nat.mul_comm]
      omega
    · rw [Nat.pow_succ, Nat.pow_succ, ← Nat.mul_assoc, ← Nat.mul_assoc] at h
      have h1 := ih (j := j) (by omega)
      exact ⟨h1.1, by omega⟩

def oddM (m : Nat) : Nat := m / 2 ^ tz 64 m
theorem oddM_of {m0 m k : Nat} (h : m0 = m * 2 ^ k) (ho : m % 2 = 1) (hm : m0 < 2 ^ 64) : oddM m0 = m ∧ tz 64 m0 = k := by
  have hp : 0 < m0 := by rw [h]; exact Nat.mul_pos (by omega) (Nat.pow_pos (by omega))
  have h1 := tz_spec 64 m0 hp hm
  exact odd_unique h1.1 ho (h1.2.trans h)

/-- What the document's Exact answers on bits, as a value. -/
def exactV (b : Nat) : Value :=
  if kindB b = 4 then .tuple #[.bool false, .int .u64 0, .int .i64 0, .int .i64 4]
  else if kindB b = 3 then .tuple #[.bool false, .int .u64 0, .int .i64 0, .int .i64 5]
  else if manS (szB b) = 0 then .tuple #[.bool (negB b), .int .u64 0, .int .i64 0, .int .i64 0]
  else .tuple #[.bool (negB b), .int .u64 (oddM (manS (szB b)) : Int), .int .i64 (expS (szB b) + tz 64 (manS (szB b))), .int .i64 0]

theorem manS_lt (s : Nat) : manS s < 9007199254740992 := by unfold manS; split <;> omega
theorem expS_bd {s : Nat} (h : s < 9223372036854775808) : -1074 ≤ expS s ∧ expS s ≤ 972 := by unfold expS; split <;> omega

def ExInv (m0 : Nat) (e0 : Int) (mv ev : Value) : Prop :=
  ∃ (m k : Nat), mv = .int .u64 (m : Int) ∧ ev = .int .i64 (e0 + k) ∧ m0 = m * 2 ^ k ∧ 0 < m ∧ m < 9007199254740992 ∧ k ≤ 64

theorem ex_step {m0 m k : Nat} (h : m0 = m * 2 ^ k) (he : m % 2 = 0) : m0 = m / 2 * 2 ^ (k + 1) := by
  rw [h, Nat.pow_succ, Nat.mul_comm (2 ^ k) 2, ← Nat.mul_assoc]
  congr 1
  omega
theorem ex_bound {m0 m k : Nat} (h : m0 = m * 2 ^ k) (h0 : 0 < m) (hm : m0 < 2 ^ 64) : k ≤ 63 := by
  rcases Nat.lt_or_ge k 64 with h1 | h1
  · omega
  · have h2 : 2 ^ 64 ≤ 2 ^ k := Nat.pow_le_pow_right (by omega) h1
    have h3 : 1 * 2 ^ k ≤ m * 2 ^ k := Nat.mul_le_mul_right _ h0
    omega

theorem hid_true {b : Bool} (h : b = true) : Hid (b = true) := h

set_option maxRecDepth 100000 in
set_option maxHeartbeats 1600000 in
theorem exact3_any (w : World) (b : Nat) (hb : b ≤ 18446744073709551615) : Calls Tryd.prog 18 #[.float .f64 b] w fun e w' => e = .returned (exactV b) ∧ w = w' := by
  have HC := Lib.hid (kind3_any w b hb)
  have HM := Lib.hid (minus3_any w b hb)
  have HN := Lib.hid (number3_any w b hb)
  by_cases h4 : kindB b = 4
  · have HI : Hid (exactV b = .tuple #[.bool false, .int .u64 0, .int .i64 0, .int .i64 4]) := Lib.hid (by unfold exactV; rw [if_pos h4])
    rw [h4] at HC
    clear h4
    go_enter Tryd.func18, Tryd.ntmps18
    go_wp2_with fail
    refine HC.out.mono ?_
    rintro e w1 ⟨rfl, rfl⟩
    go_wp2
    refine bodyPost_ret (results_tmp4 rfl _ _ _) rfl ?_
    exact ⟨by rw [HI.out]; rfl, rfl⟩
  · have q0 : ((kindB b : Int) == 4) = false := beq_eq_false_iff_ne.2 (by omega)
    by_cases h3 : kindB b = 3
    · have HI : Hid (exactV b = .tuple #[.bool false, .int .u64 0, .int .i64 0, .int .i64 5]) := Lib.hid (by unfold exactV; rw [if_neg h4, if_pos h3])
      rw [h3] at HC
      clear h3 h4 q0
      go_enter Tryd.func18, Tryd.ntmps18
      go_wp2_with fail
      refine HC.out.mono ?_
      rintro e w1 ⟨rfl, rfl⟩
      go_wp2_with fail
      refine HC.out.mono ?_
      rintro e w1 ⟨rfl, rfl⟩
      go_wp2
      refine bodyPost_ret (results_tmp4 rfl _ _ _) rfl ?_
      exact ⟨by rw [HI.out]; rfl, rfl⟩
    · have q1 : ((kindB b : Int) == 3) = false := beq_eq_false_iff_ne.2 (by omega)
      have hml := manS_lt (szB b)
      have hel := expS_bd (szB_lt b)
      by_cases h0 : manS (szB b) = 0
      · have HI : Hid (exactV b = .tuple #[.bool (negB b), .int .u64 0, .int .i64 0, .int .i64 0]) := Lib.hid (by unfold exactV; rw [if_neg h4, if_neg h3, if_pos h0])
        rw [h0] at HN
        clear h3 h4 h0
        generalize kindB b = k at *
        generalize negB b = ng at *
        generalize expS (szB b) = ex at *
        go_enter Tryd.func18, Tryd.ntmps18
        go_wp2_with fail
        refine HC.out.mono ?_
        rintro e w1 ⟨rfl, rfl⟩
        go_wp2_with fail
        refine HC.out.mono ?_
        rintro e w1 ⟨rfl, rfl⟩
        go_wp2_with fail
        refine HN.out.mono ?_
        rintro e w1 ⟨rfl, rfl⟩
        go_wp2_with fail
        refine HM.out.mono ?_
        rintro e w1 ⟨rfl, rfl⟩
        go_wp2
        refine bodyPost_ret (results_tmp4 rfl _ _ _) rfl ?_
        exact ⟨by rw [HI.out]; rfl, rfl⟩
      · have HI : Hid (exactV b = .tuple #[.bool (negB b), .int .u64 (oddM (manS (szB b)) : Int), .int .i64 (expS (szB b) + tz 64 (manS (szB b))), .int .i64 0]) := Lib.hid (by unfold exactV; rw [if_neg h4, if_neg h3, if_neg h0])
        have q2 : ((manS (szB b) : Int) == 0) = false := beq_eq_false_iff_ne.2 (by omega)
        have h0' : 0 < manS (szB b) := by omega
        clear h3 h4 h0
        generalize kindB b = k at *
        generalize negB b = ng at *
        generalize expS (szB b) = ex at *
        generalize manS (szB b) = m0 at *
        go_enter Tryd.func18, Tryd.ntmps18
        go_wp2_with fail
        refine HC.out.mono ?_
        rintro e w1 ⟨rfl, rfl⟩
        go_wp2_with fail
        refine HC.out.mono ?_
        rintro e w1 ⟨rfl, rfl⟩
        go_wp2_with fail
        refine HN.out.mono ?_
        rintro e w1 ⟨rfl, rfl⟩
        go_wp2
        go_loop [6, 7] (fun mv ev => ExInv m0 ex mv ev) (fun mv _ => (intOf mv).toNat)
        case atStart => exact ⟨m0, 0, rfl, by simp, by simp, h0', hml, by omega⟩
        case round =>
          obtain ⟨m, j, rfl, rfl, hmj, hm1, hm2, hj⟩ := hrel
          have hjb := ex_bound hmj hm1 (by omega)
          rcases Nat.mod_two_eq_zero_or_one m with he | ho
          · have HST := Lib.hid (ex_step hmj he)
            have q3 : ((m : Int) % 2 == 0) = true := beq_iff_eq.2 (by omega)
            have hhalf : 0 < m / 2 := by omega
            clear hmj he
            go_wp2
            go_round
            case rel => exact ⟨m / 2, j + 1, by go_num, by congr 1; omega, HST.out, hhalf, by omega, by omega⟩
            case measure => simp [intOf]; omega
          · have hod := oddM_of hmj ho (by omega)
            have HO1 := Lib.hid hod.1
            have HO2 := Lib.hid hod.2
            have q3 : ((m : Int) % 2 == 0) = false := beq_eq_false_iff_ne.2 (by omega)
            clear hmj ho hod
            go_wp2_with fail
            refine HM.out.mono ?_
            rintro e w1 ⟨rfl, rfl⟩
            go_wp2
            refine bodyPost_ret (results_tmp4 rfl _ _ _) rfl ?_
            exact ⟨by rw [HI.out, HO1.out, HO2.out]; rfl, rfl⟩
end Go.Proofs.YtafboimlchjnaaaDoor
