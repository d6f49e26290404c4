/- Contract: the document's float nearest to a quotient. -/
import Derived.Test.YtafboimlchjnaaaDoorTicks
namespace Go.Proofs.YtafboimlchjnaaaDoor
open Go.RowKit
set_option maxRecDepth 100000

/-- The quotient with 54 or 55 bits: the power of two of its last bit, and its two numbers. -/
def nearP (N M : Nat) : Int := (bits N : Int) - bits M - 54
def nearU (N M : Nat) : Nat := N * 2 ^ (-nearP N M).toNat
def nearD (N M : Nat) : Nat := M * 2 ^ (nearP N M).toNat
/-- How many of its bits are let go: one or two. -/
def nearK (N M : Nat) : Nat := if nearU N M / nearD N M < 18014398509481984 then 1 else 2
/-- The bits of the float nearest to N over M. -/
def nearB (N M : Nat) : Nat := if N = 0 then 0 else (nearP N M + nearK N M + 1074).toNat * 4503599627370496 + roundV (nearU N M) (nearD N M * 2 ^ nearK N M) 2

/-- What Nearest answers where it stops in the next step: with n, m, and whether there is more. -/
def finB (n : Int) (m : Nat) (mo : Bool) : Nat := (n + 1075).toNat * 4503599627370496 + (m / 2 + if m % 2 = 1 ∧ (mo = true ∨ m / 2 % 2 = 1) then 1 else 0)

theorem near_size {N M : Nat} (hN : 0 < N) (hM : 0 < M) : 9007199254740992 ≤ nearU N M / nearD N M ∧ nearU N M / nearD N M < 36028797018963968 ∧ 0 < nearD N M := by
  have hd : 0 < nearD N M := Nat.mul_pos hM (Nat.pow_pos (by omega))
  have a1 := (bits_le hN).2
  have a0 := (bits_le hN).1
  have a2 := bits_lt N
  have b1 := (bits_le hM).2
  have b0 := (bits_le hM).1
  have b2 := bits_lt M
  -- U lies from 2^(bits N - 1 + i) to 2^(bits N + i), D from 2^(bits M - 1 + j) to 2^(bits M + j)
  have u1 : 2 ^ (bits N - 1) * 2 ^ (-nearP N M).toNat ≤ nearU N M := Nat.mul_le_mul_right _ a1
  have u2 : nearU N M < 2 ^ bits N * 2 ^ (-nearP N M).toNat := Nat.mul_lt_mul_of_pos_right a2 (Nat.pow_pos (by omega))
  have d1 : 2 ^ (bits M - 1) * 2 ^ (nearP N M).toNat ≤ nearD N M := Nat.mul_le_mul_right _ b1
  have d2 : nearD N M < 2 ^ bits M * 2 ^ (nearP N M).toNat := Nat.mul_lt_mul_of_pos_right b2 (Nat.pow_pos (by omega))
  rw [← Nat.pow_add] at u1 u2 d1 d2
  have e : (nearP N M : Int) = (bits N : Int) - bits M - 54 := rfl
  refine ⟨?_, ?_, hd⟩
  · rw [Nat.le_div_iff_mul_le hd]
    have h1 : 9007199254740992 * nearD N M ≤ 2 ^ 53 * 2 ^ (bits M + (nearP N M).toNat) := Nat.mul_le_mul (by decide) (by omega)
    rw [← Nat.pow_add] at h1
    have h2 : 2 ^ (53 + (bits M + (nearP N M).toNat)) ≤ 2 ^ (bits N - 1 + (-nearP N M).toNat) := Nat.pow_le_pow_right (by omega) (by omega)
    omega
  · rw [Nat.div_lt_iff_lt_mul hd]
    have h1 : 2 ^ 55 * 2 ^ (bits M - 1 + (nearP N M).toNat) ≤ 36028797018963968 * nearD N M := Nat.mul_le_mul (by decide) (by omega)
    rw [← Nat.pow_add] at h1
    have h2 : 2 ^ (bits N + (-nearP N M).toNat) ≤ 2 ^ (55 + (bits M - 1 + (nearP N M).toNat)) := Nat.pow_le_pow_right (by omega) (by omega)
    omega

theorem roundV_two {N M Q R : Nat} (hq : N / M = Q) (hr : N % M = R) : roundV N M 2 = Q + if M < R + R ∨ R + R = M ∧ Q % 2 = 1 then 1 else 0 := by
  subst hq hr
  unfold roundV
  by_cases h : M < N % M + N % M ∨ N % M + N % M = M ∧ N / M % 2 = 1
  · rw [upB_true (.inr ⟨rfl, h⟩), if_pos h]; rfl
  · rw [upB_false (by rintro (⟨h1, _⟩ | ⟨_, h2⟩); · omega
                      · exact h h2), if_neg h]; rfl

theorem round1 {U D q r : Nat} (hq : U / D = q) (hr : U % D = r) (hD : 0 < D) : roundV U (D * 2 ^ 1) 2 = q / 2 + if q % 2 = 1 ∧ (0 < r ∨ q / 2 % 2 = 1) then 1 else 0 := by
  have hrl : r < D := by rw [← hr]; exact Nat.mod_lt _ hD
  rw [roundV_two (Q := q / 2) (R := r + D * (q % 2)) (by rw [← Nat.div_div_eq_div_mul, hq]) (by rw [Nat.mod_mul, hr, hq])]
  have h2 : q % 2 = 0 ∨ q % 2 = 1 := by omega
  have hc : (D * 2 ^ 1 < r + D * (q % 2) + (r + D * (q % 2)) ∨ r + D * (q % 2) + (r + D * (q % 2)) = D * 2 ^ 1 ∧ q / 2 % 2 = 1) ↔ (q % 2 = 1 ∧ (0 < r ∨ q / 2 % 2 = 1)) := by
    rcases h2 with h | h <;> rw [h] <;> omega
  simp only [hc]

theorem round2 {U D q r : Nat} (hq : U / D = q) (hr : U % D = r) (hD : 0 < D) : roundV U (D * 2 ^ 2) 2 = q / 4 + if q / 2 % 2 = 1 ∧ ((0 < r ∨ q % 2 = 1) ∨ q / 4 % 2 = 1) then 1 else 0 := by
  have hrl : r < D := by rw [← hr]; exact Nat.mod_lt _ hD
  rw [roundV_two (Q := q / 4) (R := r + D * (q % 4)) (by rw [← Nat.div_div_eq_div_mul, hq]) (by rw [Nat.mod_mul, hr, hq])]
  have h4 : q % 4 = 0 ∨ q % 4 = 1 ∨ q % 4 = 2 ∨ q % 4 = 3 := by omega
  have hc : (D * 2 ^ 2 < r + D * (q % 4) + (r + D * (q % 4)) ∨ r + D * (q % 4) + (r + D * (q % 4)) = D * 2 ^ 2 ∧ q / 4 % 2 = 1) ↔ (q / 2 % 2 = 1 ∧ ((0 < r ∨ q % 2 = 1) ∨ q / 4 % 2 = 1)) := by
    rcases h4 with h | h | h | h <;> rw [h] <;> omega
  simp only [hc]

theorem nearB_one {N M : Nat} {mo : Bool} (hN : 0 < N) (hM : 0 < M) (h : nearU N M / nearD N M < 18014398509481984) (hm : mo = decide (0 < nearU N M % nearD N M)) : nearB N M = finB (nearP N M) (nearU N M / nearD N M) mo := by
  have hk : nearK N M = 1 := by unfold nearK; rw [if_pos h]
  unfold nearB finB
  rw [if_neg (by omega), hk, round1 rfl rfl (near_size hN hM).2.2, hm]
  simp only [decide_eq_true_eq]
  congr 3
  omega

theorem nearB_two {N M : Nat} {mo : Bool} (hN : 0 < N) (hM : 0 < M) (h : 18014398509481984 ≤ nearU N M / nearD N M) (hm : mo = decide (0 < nearU N M % nearD N M)) :
    nearB N M = finB (nearP N M + 1) (nearU N M / nearD N M / 2) (mo || decide (nearU N M / nearD N M % 2 = 1)) := by
  have hk : nearK N M = 2 := by unfold nearK; rw [if_neg (by omega)]
  unfold nearB finB
  rw [if_neg (by omega), hk, round2 rfl rfl (near_size hN hM).2.2, hm]
  have e4 : nearU N M / nearD N M / 2 / 2 = nearU N M / nearD N M / 4 := by omega
  rw [e4]
  simp only [Bool.or_eq_true, decide_eq_true_eq]
  congr 3
  omega

/-- What holds at the head of Nearest's loop. -/
def NearRel (B : Nat) (n : Int) (m : Nat) (mo : Bool) : Prop :=
  9007199254740992 ≤ m ∧ m < 36028797018963968 ∧ (m < 18014398509481984 → B = finB n m mo) ∧ (18014398509481984 ≤ m → B = finB (n + 1) (m / 2) (mo || decide (m % 2 = 1)))

theorem NearRel.start {N M : Nat} (hN : 0 < N) (hM : 0 < M) : NearRel (nearB N M) (nearP N M) (nearU N M / nearD N M) (decide (0 < nearU N M % nearD N M)) :=
  ⟨(near_size hN hM).1, (near_size hN hM).2.1, fun h => nearB_one hN hM h rfl, fun h => nearB_two hN hM h rfl⟩

theorem NearRel.next {B m : Nat} {n : Int} {mo : Bool} (h : NearRel B n m mo) (hm : 18014398509481984 ≤ m) : NearRel B (n + 1) (m / 2) (mo || decide (m % 2 = 1)) := by
  obtain ⟨h1, h2, h3, h4⟩ := h
  exact ⟨by omega, by omega, fun _ => h4 hm, fun h => by omega⟩

theorem bits_le_of {N k : Nat} (h : N < 2 ^ k) : bits N ≤ k := by
  rcases Nat.eq_zero_or_pos N with rfl | hN
  · simp [bits]
  · have h1 := (bits_le hN).2
    have h0 := (bits_le hN).1
    rcases Nat.lt_or_ge k (bits N) with h2 | h2
    · have : 2 ^ k ≤ 2 ^ (bits N - 1) := Nat.pow_le_pow_right (by omega) (by omega)
      omega
    · exact h2

def NearInv (B : Nat) (nv mv ov : Value) : Prop :=
  ∃ (n : Int) (m : Nat) (mo : Bool), nv = .int .i64 n ∧ mv = .int .u64 (m : Int) ∧ ov = .bool mo ∧ -1000 ≤ n ∧ n ≤ 100 ∧ NearRel B n m mo ∧ (18014398509481984 ≤ m → n ≤ 50)

theorem finB_up {n : Int} {m : Nat} {mo : Bool} (h : m % 2 = 1) (h2 : mo = true ∨ m / 2 % 2 = 1) : finB n m mo = (n + 1075).toNat * 4503599627370496 + (m / 2 + 1) := by unfold finB; rw [if_pos ⟨h, h2⟩]
theorem finB_stay {n : Int} {m : Nat} {mo : Bool} (h : ¬ (m % 2 = 1 ∧ (mo = true ∨ m / 2 % 2 = 1))) : finB n m mo = (n + 1075).toNat * 4503599627370496 + m / 2 := by unfold finB; rw [if_neg h]; rfl

set_option maxRecDepth 100000 in
set_option maxHeartbeats 6400000 in
theorem near3_pos (w : World) (A B : Option Addr) (n m c d : Nat) (xs ys : List Nat) (N M : Nat) (hA : Num w A n c xs N) (hB : Num w B m d ys M) (hn : N < 2 ^ 64) (hm : M < 2 ^ 64) (hN : 0 < N) (hM : 0 < M) :
    Calls Tryd.prog 91 #[.slice A n c, .slice B m d] w fun e w' => e = .returned (.float .f64 (nearB N M)) ∧ Below w.heap.size w w' := by
  have bn := bits_le_of hn
  have bm := bits_le_of hm
  have bn0 := (bits_le hN).1
  have bm0 := (bits_le hM).1
  have hnl : n ≤ 2 := by
    have := hA.dig.len_le (k := 2) (by omega)
    rw [hA.own.len] at this; exact this
  have hml : m ≤ 2 := by
    have := hB.dig.len_le (k := 2) (by omega)
    rw [hB.own.len] at this; exact this
  have hn0 : 0 < n := by
    have := (num_zero hA)
    omega
  have hsz := near_size hN hM
  have hst := Lib.hid (NearRel.start hN hM)
  have HP : Hid (nearP N M = (bits N : Int) - bits M - 54) := Lib.hid rfl
  have HU : Hid (nearU N M = N * 2 ^ (-nearP N M).toNat) := Lib.hid rfl
  have HD : Hid (nearD N M = M * 2 ^ (nearP N M).toNat) := Lib.hid rfl
  have HA := Lib.hid hA
  have HB := Lib.hid hB
  have p1 : -200 ≤ nearP N M := by have := HP.out; omega
  have p2 : nearP N M ≤ 10 := by have := HP.out; omega
  clear hA hB
  generalize nearU N M = U at *
  generalize nearD N M = D at *
  generalize nearP N M = p at *
  generalize nearB N M = R at *
  obtain ⟨hs1, hs2, hs3⟩ := hsz
  rcases Int.lt_or_le p 0 with hp | hp
  · obtain ⟨k, rfl⟩ : ∃ k : Nat, p = -(k : Int) := ⟨p.natAbs, by omega⟩
    go_enter Tryd.func91, Tryd.ntmps91
    go_wp2_with fail
    refine (size_any _ _ _ _ _ N HA.out (by omega)).mono ?_
    rintro e w' ⟨rfl, rfl⟩
    go_wp2_with fail
    refine (size_any _ _ _ _ _ M HB.out (by omega)).mono ?_
    rintro e w' ⟨rfl, rfl⟩
    have e0 : (bits N : Int) - bits M - 54 = -(k : Int) := HP.out.symm
    have kn : decide (-(k : Int) < 0) = true := decide_eq_true (by omega)
    go_wp2_with fail
    refine (left_any _ _ _ _ k _ N HA.out (by omega) (by omega)).mono ?_
    rintro e w1 ⟨T, nt, ct, ts, rfl, htn, htl, hb1⟩
    have HTN : Hid (Num w1 T nt ct ts U) := by
      refine Lib.hid ?_
      have := HU.out
      have e1 : (- -(k : Int)).toNat = k := by omega
      rw [e1] at this
      rw [this]; exact htn
    have HDN : Hid (Num w1 B m d ys D) := by
      refine Lib.hid ?_
      have := HD.out
      have e1 : (-(k : Int)).toNat = 0 := by omega
      rw [e1, Nat.pow_zero, Nat.mul_one] at this
      rw [this]; exact HB.out.below hb1
    have HB1 := Lib.hid hb1
    have hz1 := hb1.size
    clear htn hb1 e0 kn
    go_wp2_with fail
    refine (quo_any _ _ _ _ _ _ _ _ _ U D HTN.out HDN.out (by omega) (by omega) hs3).mono ?_
    rintro e w2 ⟨Q, nq, cq, qs, S, nr, cr, rs, rfl, hQ, hR, hrn, hb2⟩
    have hqn : nq ≤ 2 := by
      have := hQ.dig.len_le (k := 2) (by omega)
      rw [hQ.own.len] at this; exact this
    obtain ⟨mo, hmo⟩ : ∃ mo : Bool, mo = decide (0 < U % D) := ⟨_, rfl⟩
    have q6 : decide (0 < nr) = mo := by
      rw [hmo]
      have := num_zero hR
      exact decide_eq_decide.2 (by omega)
    have HST := hst
    rw [← hmo] at HST
    have HQ := Lib.hid hQ
    have HB2 := Lib.hid (HB1.out.trans (hb2.mono hz1))
    generalize U / D = q at *
    clear hmo hQ hR hb2 hst
    go_wp2_with fail
    refine (fits_small _ 0 _ _ _ _ q HQ.out.own HQ.out.dig.1 hqn).mono ?_
    rintro e w3 ⟨rfl, rfl⟩
    go_wp2
    go_loop [5, 8, 10] (fun nv mv ov => NearInv R nv mv ov) (fun _ mv _ => (intOf mv).toNat)
    case atStart => exact ⟨_, q, mo, rfl, rfl, rfl, by omega, by omega, HST.out, fun _ => by omega⟩
    case round =>
      obtain ⟨i, j, o, rfl, rfl, rfl, hi1, hi2, hr, hi3⟩ := hrel
      obtain ⟨hr1, hr2, hr3, hr4⟩ := id hr
      have HREL := Lib.hid hr
      have HR3 := Lib.hid hr3
      have HI3 := Lib.hid hi3
      clear hr hr3 hr4 hi3 q6 HST
      by_cases h54 : j < 18014398509481984
      · have HF := Lib.hid (HR3.out h54)
        have k1 : decide ((j : Int) / 2 < 9007199254740992) = true := decide_eq_true (by omega)
        have k2 : decide (9007199254740992 ≤ (j : Int)) = true := decide_eq_true (by omega)
        rcases Nat.mod_two_eq_zero_or_one j with hj | hj
        · have k3 : ((j : Int) % 2 == 1) = false := beq_eq_false_iff_ne.2 (by omega)
          have HF2 : Hid (R = (i + 1075).toNat * 4503599627370496 + j / 2) := Lib.hid (by rw [HF.out]; exact finB_stay (by omega))
          clear hj
          go_wp2_with fail
          have ez : (i + 1 + 1074) * 4503599627370496 + (j : Int) / 2 = ((R : Nat) : Int) := by rw [HF2.out]; omega
          rw [ez, run_callFunc_extern Tryd.func52 (by kernel_rfl) (by kernel_rfl) (by kernel_rfl) (e := Extern.MathFloatBits.float64frombits) (by kernel_rfl), run_f64from]
          simp only [Result.andThen]
          rw [Oper.upon_value]
          go_wp2
          go_ret
          exact ⟨rfl, HB2.out⟩
        · have k3 : ((j : Int) % 2 == 1) = true := beq_iff_eq.2 (by omega)
          rcases o with _ | _
          · rcases Nat.mod_two_eq_zero_or_one (j / 2) with hj2 | hj2
            · have k4 : ((j : Int) / 2 % 2 == 1) = false := beq_eq_false_iff_ne.2 (by omega)
              have HF2 : Hid (R = (i + 1075).toNat * 4503599627370496 + j / 2) := Lib.hid (by rw [HF.out]; exact finB_stay (by simp; omega))
              clear hj hj2
              go_wp2_with fail
              have ez : (i + 1 + 1074) * 4503599627370496 + (j : Int) / 2 = ((R : Nat) : Int) := by rw [HF2.out]; omega
              rw [ez, run_callFunc_extern Tryd.func52 (by kernel_rfl) (by kernel_rfl) (by kernel_rfl) (e := Extern.MathFloatBits.float64frombits) (by kernel_rfl), run_f64from]
              simp only [Result.andThen]
              rw [Oper.upon_value]
              go_wp2
              go_ret
              exact ⟨rfl, HB2.out⟩
            · have k4 : ((j : Int) / 2 % 2 == 1) = true := beq_iff_eq.2 (by omega)
              have HF2 : Hid (R = (i + 1075).toNat * 4503599627370496 + (j / 2 + 1)) := Lib.hid (by rw [HF.out]; exact finB_up (by omega) (.inr hj2))
              clear hj hj2
              go_wp2_with fail
              have ez : (i + 1 + 1074) * 4503599627370496 + ((j : Int) / 2 + 1) = ((R : Nat) : Int) := by rw [HF2.out]; omega
              rw [ez, run_callFunc_extern Tryd.func52 (by kernel_rfl) (by kernel_rfl) (by kernel_rfl) (e := Extern.MathFloatBits.float64frombits) (by kernel_rfl), run_f64from]
              simp only [Result.andThen]
              rw [Oper.upon_value]
              go_wp2
              go_ret
              exact ⟨rfl, HB2.out⟩
          · have HF2 : Hid (R = (i + 1075).toNat * 4503599627370496 + (j / 2 + 1)) := Lib.hid (by rw [HF.out]; exact finB_up (by omega) (.inl rfl))
            clear hj
            go_wp2_with fail
            have ez : (i + 1 + 1074) * 4503599627370496 + ((j : Int) / 2 + 1) = ((R : Nat) : Int) := by rw [HF2.out]; omega
            rw [ez, run_callFunc_extern Tryd.func52 (by kernel_rfl) (by kernel_rfl) (by kernel_rfl) (e := Extern.MathFloatBits.float64frombits) (by kernel_rfl), run_f64from]
            simp only [Result.andThen]
            rw [Oper.upon_value]
            go_wp2
            go_ret
            exact ⟨rfl, HB2.out⟩
      · have k1 : decide ((j : Int) / 2 < 9007199254740992) = false := decide_eq_false (by omega)
        have k2 : decide (9007199254740992 ≤ (j : Int)) = true := decide_eq_true (by omega)
        have HNX := Lib.hid (HREL.out.next (by omega))
        have hi4 := HI3.out (by omega)
        rcases Nat.mod_two_eq_zero_or_one j with hj | hj
        · have k3 : ((j : Int) % 2 == 1) = false := beq_eq_false_iff_ne.2 (by omega)
          have hd : decide (j % 2 = 1) = false := decide_eq_false (by omega)
          have HNX2 := HNX.out
          rw [hd, Bool.or_false] at HNX2
          have HNX3 := Lib.hid HNX2
          clear hj hd HNX2
          rcases o with _ | _
          · go_wp2
            go_round
            case rel => exact ⟨_, j / 2, _, rfl, by go_num, rfl, by omega, by omega, HNX3.out, fun _ => by omega⟩
            case measure => simp [intOf]; omega
          · go_wp2
            go_round
            case rel => exact ⟨_, j / 2, _, rfl, by go_num, rfl, by omega, by omega, HNX3.out, fun _ => by omega⟩
            case measure => simp [intOf]; omega
        · have k3 : ((j : Int) % 2 == 1) = true := beq_iff_eq.2 (by omega)
          have hd : decide (j % 2 = 1) = true := decide_eq_true (by omega)
          have HNX2 := HNX.out
          rw [hd, Bool.or_true] at HNX2
          have HNX3 := Lib.hid HNX2
          clear hj hd HNX2
          rcases o with _ | _
          · go_wp2
            go_round
            case rel => exact ⟨_, j / 2, _, rfl, by go_num, rfl, by omega, by omega, HNX3.out, fun _ => by omega⟩
            case measure => simp [intOf]; omega
          · go_wp2
            go_round
            case rel => exact ⟨_, j / 2, _, rfl, by go_num, rfl, by omega, by omega, HNX3.out, fun _ => by omega⟩
            case measure => simp [intOf]; omega
  · obtain ⟨k, rfl⟩ : ∃ k : Nat, p = (k : Int) := ⟨p.natAbs, by omega⟩
    go_enter Tryd.func91, Tryd.ntmps91
    go_wp2_with fail
    refine (size_any _ _ _ _ _ N HA.out (by omega)).mono ?_
    rintro e w' ⟨rfl, rfl⟩
    go_wp2_with fail
    refine (size_any _ _ _ _ _ M HB.out (by omega)).mono ?_
    rintro e w' ⟨rfl, rfl⟩
    have e0 : (bits N : Int) - bits M - 54 = (k : Int) := HP.out.symm
    have kn : decide ((k : Int) < 0) = false := decide_eq_false (by omega)
    go_wp2_with fail
    refine (left_any _ _ _ _ k _ M HB.out (by omega) (by omega)).mono ?_
    rintro e w1 ⟨T, nt, ct, ts, rfl, htn, htl, hb1⟩
    have HTN : Hid (Num w1 T nt ct ts D) := by
      refine Lib.hid ?_
      have := HD.out
      have e1 : ((k : Int)).toNat = k := by omega
      rw [e1] at this
      rw [this]; exact htn
    have HDN : Hid (Num w1 A n c xs U) := by
      refine Lib.hid ?_
      have := HU.out
      have e1 : (-(k : Int)).toNat = 0 := by omega
      rw [e1, Nat.pow_zero, Nat.mul_one] at this
      rw [this]; exact HA.out.below hb1
    have HB1 := Lib.hid hb1
    have hz1 := hb1.size
    clear htn hb1 e0 kn
    go_wp2_with fail
    refine (quo_any _ _ _ _ _ _ _ _ _ U D HDN.out HTN.out (by omega) (by omega) hs3).mono ?_
    rintro e w2 ⟨Q, nq, cq, qs, S, nr, cr, rs, rfl, hQ, hR, hrn, hb2⟩
    have hqn : nq ≤ 2 := by
      have := hQ.dig.len_le (k := 2) (by omega)
      rw [hQ.own.len] at this; exact this
    obtain ⟨mo, hmo⟩ : ∃ mo : Bool, mo = decide (0 < U % D) := ⟨_, rfl⟩
    have q6 : decide (0 < nr) = mo := by
      rw [hmo]
      have := num_zero hR
      exact decide_eq_decide.2 (by omega)
    have HST := hst
    rw [← hmo] at HST
    have HQ := Lib.hid hQ
    have HB2 := Lib.hid (HB1.out.trans (hb2.mono hz1))
    generalize U / D = q at *
    clear hmo hQ hR hb2 hst
    go_wp2_with fail
    refine (fits_small _ 0 _ _ _ _ q HQ.out.own HQ.out.dig.1 hqn).mono ?_
    rintro e w3 ⟨rfl, rfl⟩
    go_wp2
    go_loop [5, 8, 10] (fun nv mv ov => NearInv R nv mv ov) (fun _ mv _ => (intOf mv).toNat)
    case atStart => exact ⟨_, q, mo, rfl, rfl, rfl, by omega, by omega, HST.out, fun _ => by omega⟩
    case round =>
      obtain ⟨i, j, o, rfl, rfl, rfl, hi1, hi2, hr, hi3⟩ := hrel
      obtain ⟨hr1, hr2, hr3, hr4⟩ := id hr
      have HREL := Lib.hid hr
      have HR3 := Lib.hid hr3
      have HI3 := Lib.hid hi3
      clear hr hr3 hr4 hi3 q6 HST
      by_cases h54 : j < 18014398509481984
      · have HF := Lib.hid (HR3.out h54)
        have k1 : decide ((j : Int) / 2 < 9007199254740992) = true := decide_eq_true (by omega)
        have k2 : decide (9007199254740992 ≤ (j : Int)) = true := decide_eq_true (by omega)
        rcases Nat.mod_two_eq_zero_or_one j with hj | hj
        · have k3 : ((j : Int) % 2 == 1) = false := beq_eq_false_iff_ne.2 (by omega)
          have HF2 : Hid (R = (i + 1075).toNat * 4503599627370496 + j / 2) := Lib.hid (by rw [HF.out]; exact finB_stay (by omega))
          clear hj
          go_wp2_with fail
          have ez : (i + 1 + 1074) * 4503599627370496 + (j : Int) / 2 = ((R : Nat) : Int) := by rw [HF2.out]; omega
          rw [ez, run_callFunc_extern Tryd.func52 (by kernel_rfl) (by kernel_rfl) (by kernel_rfl) (e := Extern.MathFloatBits.float64frombits) (by kernel_rfl), run_f64from]
          simp only [Result.andThen]
          rw [Oper.upon_value]
          go_wp2
          go_ret
          exact ⟨rfl, HB2.out⟩
        · have k3 : ((j : Int) % 2 == 1) = true := beq_iff_eq.2 (by omega)
          rcases o with _ | _
          · rcases Nat.mod_two_eq_zero_or_one (j / 2) with hj2 | hj2
            · have k4 : ((j : Int) / 2 % 2 == 1) = false := beq_eq_false_iff_ne.2 (by omega)
              have HF2 : Hid (R = (i + 1075).toNat * 4503599627370496 + j / 2) := Lib.hid (by rw [HF.out]; exact finB_stay (by simp; omega))
              clear hj hj2
              go_wp2_with fail
              have ez : (i + 1 + 1074) * 4503599627370496 + (j : Int) / 2 = ((R : Nat) : Int) := by rw [HF2.out]; omega
              rw [ez, run_callFunc_extern Tryd.func52 (by kernel_rfl) (by kernel_rfl) (by kernel_rfl) (e := Extern.MathFloatBits.float64frombits) (by kernel_rfl), run_f64from]
              simp only [Result.andThen]
              rw [Oper.upon_value]
              go_wp2
              go_ret
              exact ⟨rfl, HB2.out⟩
            · have k4 : ((j : Int) / 2 % 2 == 1) = true := beq_iff_eq.2 (by omega)
              have HF2 : Hid (R = (i + 1075).toNat * 4503599627370496 + (j / 2 + 1)) := Lib.hid (by rw [HF.out]; exact finB_up (by omega) (.inr hj2))
              clear hj hj2
              go_wp2_with fail
              have ez : (i + 1 + 1074) * 4503599627370496 + ((j : Int) / 2 + 1) = ((R : Nat) : Int) := by rw [HF2.out]; omega
              rw [ez, run_callFunc_extern Tryd.func52 (by kernel_rfl) (by kernel_rfl) (by kernel_rfl) (e := Extern.MathFloatBits.float64frombits) (by kernel_rfl), run_f64from]
              simp only [Result.andThen]
              rw [Oper.upon_value]
              go_wp2
              go_ret
              exact ⟨rfl, HB2.out⟩
          · have HF2 : Hid (R = (i + 1075).toNat * 4503599627370496 + (j / 2 + 1)) := Lib.hid (by rw [HF.out]; exact finB_up (by omega) (.inl rfl))
            clear hj
            go_wp2_with fail
            have ez : (i + 1 + 1074) * 4503599627370496 + ((j : Int) / 2 + 1) = ((R : Nat) : Int) := by rw [HF2.out]; omega
            rw [ez, run_callFunc_extern Tryd.func52 (by kernel_rfl) (by kernel_rfl) (by kernel_rfl) (e := Extern.MathFloatBits.float64frombits) (by kernel_rfl), run_f64from]
            simp only [Result.andThen]
            rw [Oper.upon_value]
            go_wp2
            go_ret
            exact ⟨rfl, HB2.out⟩
      · have k1 : decide ((j : Int) / 2 < 9007199254740992) = false := decide_eq_false (by omega)
        have k2 : decide (9007199254740992 ≤ (j : Int)) = true := decide_eq_true (by omega)
        have HNX := Lib.hid (HREL.out.next (by omega))
        have hi4 := HI3.out (by omega)
        rcases Nat.mod_two_eq_zero_or_one j with hj | hj
        · have k3 : ((j : Int) % 2 == 1) = false := beq_eq_false_iff_ne.2 (by omega)
          have hd : decide (j % 2 = 1) = false := decide_eq_false (by omega)
          have HNX2 := HNX.out
          rw [hd, Bool.or_false] at HNX2
          have HNX3 := Lib.hid HNX2
          clear hj hd HNX2
          rcases o with _ | _
          · go_wp2
            go_round
            case rel => exact ⟨_, j / 2, _, rfl, by go_num, rfl, by omega, by omega, HNX3.out, fun _ => by omega⟩
            case measure => simp [intOf]; omega
          · go_wp2
            go_round
            case rel => exact ⟨_, j / 2, _, rfl, by go_num, rfl, by omega, by omega, HNX3.out, fun _ => by omega⟩
            case measure => simp [intOf]; omega
        · have k3 : ((j : Int) % 2 == 1) = true := beq_iff_eq.2 (by omega)
          have hd : decide (j % 2 = 1) = true := decide_eq_true (by omega)
          have HNX2 := HNX.out
          rw [hd, Bool.or_true] at HNX2
          have HNX3 := Lib.hid HNX2
          clear hj hd HNX2
          rcases o with _ | _
          · go_wp2
            go_round
            case rel => exact ⟨_, j / 2, _, rfl, by go_num, rfl, by omega, by omega, HNX3.out, fun _ => by omega⟩
            case measure => simp [intOf]; omega
          · go_wp2
            go_round
            case rel => exact ⟨_, j / 2, _, rfl, by go_num, rfl, by omega, by omega, HNX3.out, fun _ => by omega⟩
            case measure => simp [intOf]; omega
end Go.Proofs.YtafboimlchjnaaaDoor
