/- Package rate: contracts of Check, Within, Once, told, gap, ahead, Of, Real; the fixed calls. -/
import Derived.Test.YtafboimlchjnaaaDoorQuotP
import Derived.Test.YtafboimlchjnaaaDoorRate
import Derived.Test.YtafboimlchjnaaaDoorExactM
import Derived.Test.YtafboimlchjnaaaDoorAwake3

/- Contracts of package rate: Check, Within, Once, Real. -/
namespace Go.Proofs.YtafboimlchjnaaaDoor
open Go.RowKit
set_option maxRecDepth 100000

set_option maxHeartbeats 400000 in
theorem isHz4_any (w : World) (hz : Int) : Calls Tryd.prog 79 #[.int .i64 hz] w fun e w' => e = .returned (.bool (hzB hz)) ∧ w = w' := by
  by_cases h1 : 1 ≤ hz
  · have hd : hzB hz = decide (hz ≤ 1000000000) := by unfold hzB; simp [h1]
    have HD := Lib.hid hd
    clear hd
    go_enter Tryd.func79, Tryd.ntmps79
    go_wp2
    go_ret
    exact ⟨ret_bool (by rw [HD.out]), rfl⟩
  · have hd : hzB hz = false := by unfold hzB; simp [h1]
    have HD := Lib.hid hd
    have h2 : decide (1 ≤ hz) = false := decide_eq_false h1
    clear hd h1
    go_enter Tryd.func79, Tryd.ntmps79
    go_wp2
    go_ret
    exact ⟨ret_bool (by rw [HD.out]), rfl⟩

set_option maxHeartbeats 800000 in
theorem checkP_any (w : World) (T Tau : Int) : Calls Tryd.prog 44 #[.agg #[.int .i64 T, .int .i64 Tau]] w fun e w' => e = .returned (.int .i64 (checkV T Tau)) ∧ Below w.heap.size w w' := by
  have HF := Lib.hid (fun w => tform_any w T)
  have HG := Lib.hid (fun w => tform_any w Tau)
  by_cases h1 : T = 0
  · have HV := Lib.hid (checkV_bad (T := T) (Tau := Tau) (by omega))
    have q : (T == 0) = true := by simp [h1]
    clear h1
    go_enter Tryd.func44, Tryd.ntmps44
    go_wp2
    go_ret
    exact ⟨by rw [HV.out]; rfl, (Below.refl _ _).alloc (Nat.le_refl _) _⟩
  · have q : (T == 0) = false := by simp [h1]
    rcases hT : isTick T with _ | _
    · have HV := Lib.hid (checkV_bad (T := T) (Tau := Tau) (by rw [hT]; simp))
      rw [hT] at HF
      clear hT h1
      go_enter Tryd.func44, Tryd.ntmps44
      go_wp2_with fail
      refine (HF.out _).mono ?_
      rintro e w1 ⟨rfl, rfl⟩
      go_wp2
      go_ret
      exact ⟨by rw [HV.out]; rfl, (Below.refl _ _).alloc (Nat.le_refl _) _⟩
    · rw [hT] at HF
      rcases hU : isTick Tau with _ | _
      · have HV := Lib.hid (checkV_bad (T := T) (Tau := Tau) (by rw [hU]; simp))
        rw [hU] at HG
        clear hT hU h1
        go_enter Tryd.func44, Tryd.ntmps44
        go_wp2_with fail
        refine (HF.out _).mono ?_
        rintro e w1 ⟨rfl, rfl⟩
        go_wp2_with fail
        refine (HG.out _).mono ?_
        rintro e w1 ⟨rfl, rfl⟩
        go_wp2
        go_ret
        exact ⟨by rw [HV.out]; rfl, (Below.refl _ _).alloc (Nat.le_refl _) _⟩
      · have HV := Lib.hid (checkV_ok (T := T) (Tau := Tau) (by have := isTick_iff.1 hT; omega) hT hU)
        rw [hU] at HG
        clear hT hU h1
        go_enter Tryd.func44, Tryd.ntmps44
        go_wp2_with fail
        refine (HF.out _).mono ?_
        rintro e w1 ⟨rfl, rfl⟩
        go_wp2_with fail
        refine (HG.out _).mono ?_
        rintro e w1 ⟨rfl, rfl⟩
        go_wp2
        go_ret
        exact ⟨by rw [HV.out]; rfl, (Below.refl _ _).alloc (Nat.le_refl _) _⟩

set_option maxHeartbeats 1600000 in
theorem withinP_any (w : World) (T Tau span : Int) : Calls Tryd.prog 49 #[.agg #[.int .i64 T, .int .i64 Tau], .int .i64 span] w (ValEnd w (dwithV T Tau span)) := by
  have HK := Lib.hid (fun w => checkP_any w T Tau)
  have HF := Lib.hid (fun w => tform_any w span)
  rcases checkV_cases T Tau with hc | hc
  · rcases hs : isTick span with _ | _
    · have HV : Hid (dwithV T Tau span = .tuple #[.int .i64 0, .int .i64 1]) := Lib.hid (by unfold dwithV; rw [if_pos (.inr hs)])
      rw [hc] at HK
      rw [hs] at HF
      clear hc hs
      go_enter Tryd.func49, Tryd.ntmps49
      go_wp2_with fail
      refine (HK.out _).mono ?_
      rintro e w1 ⟨rfl, hb1⟩
      have HB1 := Lib.hid hb1
      clear hb1
      go_wp2_with fail
      refine (HF.out _).mono ?_
      rintro e w2 ⟨rfl, rfl⟩
      go_wp2
      go_ret2
      exact ⟨by rw [HV.out]; rfl, ((Below.refl _ _).alloc (Nat.le_refl _) _).trans (HB1.out.mono (by simp))⟩
    · have hb := checkV_zero hc
      have ht := isTick_iff.1 hs
      obtain ⟨t, rfl⟩ : ∃ t : Nat, T = (t : Int) := ⟨T.natAbs, by omega⟩
      obtain ⟨u, rfl⟩ : ∃ u : Nat, Tau = (u : Int) := ⟨Tau.natAbs, by omega⟩
      obtain ⟨s, rfl⟩ : ∃ s : Nat, span = (s : Int) := ⟨span.natAbs, by omega⟩
      obtain ⟨q, hq⟩ : ∃ q, (s + u) / t = q := ⟨_, rfl⟩
      have hql : q ≤ s + u := by rw [← hq]; exact Nat.div_le_self _ _
      have HV : Hid (dwithV t u s = .tuple #[.int .i64 ((q + 1 : Nat) : Int), .int .i64 0]) := Lib.hid (by unfold dwithV; rw [if_neg (by rw [hc, hs]; simp)]; unfold withV; rw [← hq]; rfl)
      have e1 : ((s : Int) + (u : Int)).tdiv (t : Int) = (q : Int) := by
        rw [← hq]; exact tdiv_nat (s + u) t
      have e2 : wrap64 (q : Int) = (q : Int) := by unfold wrap64; omega
      have e3 : wrap64 ((q : Int) + 1) = (q : Int) + 1 := by unfold wrap64; omega
      have e4 : IntKind.i64.wrap (q : Int) = (q : Int) := IntWalk.i64_in _ (by omega)
      have b0 : (0 : Int) ≤ q := by omega
      have b1 : (q : Int) ≤ 9223372036854775806 := by omega
      have t1 : ((t : Int) == 0) = false := beq_eq_false_iff_ne.2 (by omega)
      have t2 : ¬ (t : Int) = 0 := by omega
      have t3 : (s : Int) ≤ 4611686018427387903 := by omega
      have t4 : (u : Int) ≤ 4611686018427387903 := by omega
      have t5 : (0 : Int) ≤ s := by omega
      have t6 : (0 : Int) ≤ u := by omega
      rw [hc] at HK
      rw [hs] at HF
      clear hc hs hq hql hb ht
      go_enter Tryd.func49, Tryd.ntmps49
      go_wp2_with fail
      refine (HK.out _).mono ?_
      rintro e w1 ⟨rfl, hb1⟩
      have hz1 : w.heap.size + 1 ≤ w1.heap.size := by have := hb1.size; simpa using this
      have ha1 : w1.cell? ⟨w.heap.size, 0, none⟩ = some (.int .i64 (t : Int)) := by rw [hb1.cell (by simp)]; simp
      have ha2 : w1.cell? ⟨w.heap.size, 1, none⟩ = some (.int .i64 (u : Int)) := by rw [hb1.cell (by simp)]; simp
      have HB1 := Lib.hid hb1
      clear hb1
      go_wp2_with fail
      refine (HF.out _).mono ?_
      rintro e w2 ⟨rfl, rfl⟩
      go_wp2
      go_ret2
      exact ⟨by rw [HV.out]; rfl, ((Below.refl _ _).alloc (Nat.le_refl _) _).trans (HB1.out.mono (by simp))⟩
  · have HV : Hid (dwithV T Tau span = .tuple #[.int .i64 0, .int .i64 1]) := Lib.hid (by unfold dwithV; rw [if_pos (.inl (by rw [hc]; omega))])
    rw [hc] at HK
    clear hc
    go_enter Tryd.func49, Tryd.ntmps49
    go_wp2_with fail
    refine (HK.out _).mono ?_
    rintro e w1 ⟨rfl, hb1⟩
    have HB1 := Lib.hid hb1
    clear hb1
    go_wp2
    go_ret2
    exact ⟨by rw [HV.out]; rfl, ((Below.refl _ _).alloc (Nat.le_refl _) _).trans (HB1.out.mono (by simp))⟩

theorem dwithV_shape (T Tau span : Int) : ∃ n f : Int, dwithV T Tau span = .tuple #[.int .i64 n, .int .i64 f] := by
  unfold dwithV; split
  · exact ⟨_, _, rfl⟩
  · exact ⟨_, _, rfl⟩
set_option maxHeartbeats 800000 in
theorem onceP_any (w : World) (T Tau : Int) : Calls Tryd.prog 47 #[.agg #[.int .i64 T, .int .i64 Tau]] w (ValEnd w (dwithV T Tau 0)) := by
  obtain ⟨n, f, hv⟩ := dwithV_shape T Tau 0
  have HW := Lib.hid (fun w => withinP_any w T Tau 0)
  rw [hv] at HW
  have HV := Lib.hid hv
  clear hv
  go_enter Tryd.func47, Tryd.ntmps47
  go_wp2_with fail
  refine (HW.out _).mono ?_
  rintro e w1 ⟨rfl, hb1⟩
  have HB1 := Lib.hid hb1
  clear hb1
  go_wp2
  go_ret2
  exact ⟨by rw [HV.out]; rfl, ((Below.refl _ _).alloc (Nat.le_refl _) _).trans (HB1.out.mono (by simp))⟩
end Go.Proofs.YtafboimlchjnaaaDoor


/- Floats held against nought and infinity; contract of math.IsInf above. -/
namespace Go.Proofs.YtafboimlchjnaaaDoor
open Go.RowKit
set_option maxRecDepth 100000

theorem read_infs {b : Nat} (hb : b ≤ 18446744073709551615) (hs : szB b = 9218868437227405312) : Ieee.double.read b = .infinity (negB b) := by
  have e0 : (b / 9223372036854775808 % 2 == 1) = negB b := by
    unfold negB
    by_cases h : 9223372036854775808 ≤ b
    · rw [decide_eq_true h, beq_iff_eq]; omega
    · rw [decide_eq_false h, beq_eq_false_iff_ne]; omega
  unfold Ieee.Format.read
  rw [dbl_sign, dbl_bin, dbl_inf, dbl_least, e0]
  have e : b % 9223372036854775808 = 9218868437227405312 := hs
  simp [e]
theorem ordF_inf_fin {a b : Nat} (ha0 : a ≤ 18446744073709551615) (ha : szB a = 9218868437227405312) (hb : b ≤ 18446744073709551615) (hb' : szB b < 9218868437227405312) : ordF a b = some (if negB a then .lt else .gt) := by
  unfold ordF Ieee.Format.order
  rw [read_infs ha0 ha, read_fin hb hb']
  rfl

def infB (b : Nat) : Bool := decide (b = 9218868437227405312)
theorem VB_le_max {b : Nat} (h : szB b < 9218868437227405312) : VB b ≤ VB 9218868437227405311 := by
  have e : VB 9218868437227405311 = (WS 9218868437227405311 : Int) := by
    have : VB 9218868437227405311 = (WS (szB 9218868437227405311) : Int) := VB_pos (by decide)
    rw [this, show szB 9218868437227405311 = 9218868437227405311 from rfl]
  have hw := (WS_le (s := szB b) (s' := 9218868437227405311)).2 (by omega)
  rw [e]
  rcases hn : negB b with _ | _
  · rw [VB_pos hn]; omega
  · rw [VB_neg hn]; omega

set_option maxHeartbeats 400000 in
theorem isInf1_any (w : World) (b : Nat) (hb : b ≤ 18446744073709551615) (hn : nanB b = false) : Calls Tryd.prog 96 #[.float .f64 b, .int .i64 1] w fun e w' => e = .returned (.bool (infB b)) ∧ w = w' := by
  have hle := of_decide_eq_false hn
  have key : (infB b = true ∧ FloatKind.f64.format.order b 9218868437227405311 = some .gt) ∨ (infB b = false ∧ FloatKind.f64.format.order b 9218868437227405311 = some .lt) ∨ (infB b = false ∧ FloatKind.f64.format.order b 9218868437227405311 = some .eq) := by
    rcases Nat.lt_or_ge (szB b) 9218868437227405312 with h | h
    · right
      have hi : infB b = false := decide_eq_false (by intro e; rw [e] at h; revert h; decide)
      have e : FloatKind.f64.format.order b 9218868437227405311 = some (compare (VB b) (VB 9218868437227405311)) := ordF_fin hb (by omega) h (by decide)
      rw [e]
      rcases Int.lt_or_eq_of_le (VB_le_max h) with g | g
      · left; exact ⟨hi, by rw [order_lt_iff.2 g]⟩
      · right; exact ⟨hi, by rw [order_eq_iff.2 g]⟩
    · have hs : szB b = 9218868437227405312 := by omega
      have e : FloatKind.f64.format.order b 9218868437227405311 = some (if negB b then .lt else .gt) := ordF_inf_fin hb hs (by omega) (by decide)
      rw [e]
      rcases hg : negB b with _ | _
      · left
        refine ⟨decide_eq_true ?_, rfl⟩
        have := of_decide_eq_false hg
        unfold szB at hs
        omega
      · right; left
        refine ⟨decide_eq_false ?_, rfl⟩
        have := of_decide_eq_true hg
        omega
  have HK := Lib.hid key
  clear key hle hn
  rcases HK.out with ⟨h1, h2⟩ | ⟨h1, h2⟩ | ⟨h1, h2⟩
  all_goals
    have H1 := Lib.hid h1
    clear h1 HK
    go_enter Tryd.func96, Tryd.ntmps96
    go_wp2
    go_ret
    exact ⟨ret_bool (by rw [H1.out]), rfl⟩

/-- Is it at most nought, is it below nought, as Go asks of one that is no NaN? -/
def le0B (b : Nat) : Bool := decide (szB b = 0) || negB b
def lt0B (b : Nat) : Bool := !decide (szB b = 0) && negB b
theorem ord_nought {b : Nat} (hb : b ≤ 18446744073709551615) (hn : nanB b = false) :
    (le0B b = true ∧ lt0B b = false ∧ ordF b 0 = some .eq) ∨ (le0B b = true ∧ lt0B b = true ∧ ordF b 0 = some .lt) ∨ (le0B b = false ∧ lt0B b = false ∧ ordF b 0 = some .gt) := by
  have hle := of_decide_eq_false hn
  have v0 : VB 0 = 0 := by
    have : VB 0 = (WS (szB 0) : Int) := VB_pos (by decide)
    rw [this, show szB 0 = 0 from rfl, WS_zero]; rfl
  unfold le0B lt0B
  rcases Nat.lt_or_ge (szB b) 9218868437227405312 with h | h
  · rw [ordF_fin hb (by omega) h (by decide), v0]
    by_cases h0 : szB b = 0
    · left
      rw [decide_eq_true h0]
      have : VB b = 0 := by
        rcases hg : negB b with _ | _
        · rw [VB_pos hg, h0, WS_zero]; rfl
        · rw [VB_neg hg, h0, WS_zero]; rfl
      rw [this, order_eq_iff.2 rfl]
      exact ⟨rfl, rfl, rfl⟩
    · right
      rw [decide_eq_false h0]
      have hw := (WS_lt (s := 0) (s' := szB b)).2 (by omega)
      rw [WS_zero] at hw
      rcases hg : negB b with _ | _
      · right
        rw [VB_pos hg, order_gt_iff.2 (by omega)]
        exact ⟨rfl, rfl, rfl⟩
      · left
        rw [VB_neg hg, order_lt_iff.2 (by omega)]
        exact ⟨rfl, rfl, rfl⟩
  · right
    rw [ordF_inf_fin hb (by omega) (by omega) (by decide), decide_eq_false (by omega)]
    rcases hg : negB b with _ | _
    · right; exact ⟨rfl, rfl, rfl⟩
    · left; exact ⟨rfl, rfl, rfl⟩
end Go.Proofs.YtafboimlchjnaaaDoor


/- Contract of package rate: told. -/
namespace Go.Proofs.YtafboimlchjnaaaDoor
open Go.RowKit
set_option maxRecDepth 100000

/-- A rate that is boxed: its three cells. -/
abbrev RateV (p b : Nat) (hz : Int) : Value := .agg #[.float .f64 p, .float .f64 b, .int .i64 hz]

set_option maxHeartbeats 800000 in
theorem told_hz (w : World) (p b : Nat) (hz : Int) (hh : hzB hz = false) : Calls Tryd.prog 75 #[RateV p b hz] w fun e w' => e = .returned (.int .i64 1) ∧ Below w.heap.size w w' := by
  have HC := Lib.hid (fun w => isHz4_any w hz)
  rw [hh] at HC
  clear hh
  go_enter Tryd.func75, Tryd.ntmps75
  go_wp2_with fail
  refine (HC.out _).mono ?_
  rintro e w1 ⟨rfl, rfl⟩
  go_wp2
  go_ret
  exact ⟨rfl, (Below.refl _ _).alloc (Nat.le_refl _) _⟩


set_option maxHeartbeats 1600000 in
theorem told_ok (w : World) (p b : Nat) (hz : Int) (hh : hzB hz = true) (hp : p ≤ 18446744073709551615) (hb : b ≤ 18446744073709551615) (np : nanB p = false) (nb : nanB b = false)
    (p0 : FloatKind.f64.format.order p 0 = some .gt) (ip : infB p = false) (b0 : FloatKind.f64.format.order b 0 = some .gt ∨ FloatKind.f64.format.order b 0 = some .eq) (ib : infB b = false) :
    Calls Tryd.prog 75 #[RateV p b hz] w fun e w' => e = .returned (.int .i64 0) ∧ Below w.heap.size w w' := by
  have HC := Lib.hid (fun w => isHz4_any w hz)
  have N1 := Lib.hid (fun w => isNaN_any w p hp)
  have N2 := Lib.hid (fun w => isNaN_any w b hb)
  have I1 := Lib.hid (fun w => isInf1_any w p hp np)
  have I2 := Lib.hid (fun w => isInf1_any w b hb nb)
  rw [hh] at HC
  rw [np] at N1
  rw [nb] at N2
  rw [ip] at I1
  rw [ib] at I2
  clear hh np nb ip ib hp hb
  rcases b0 with b0 | b0
  all_goals
    go_enter Tryd.func75, Tryd.ntmps75
    go_wp2_with fail
    refine (HC.out _).mono ?_
    rintro e w1 ⟨rfl, rfl⟩
    go_wp2_with fail
    refine (N1.out _).mono ?_
    rintro e w1 ⟨rfl, rfl⟩
    go_wp2_with fail
    refine (N2.out _).mono ?_
    rintro e w1 ⟨rfl, rfl⟩
    go_wp2_with fail
    refine (I1.out _).mono ?_
    rintro e w1 ⟨rfl, rfl⟩
    go_wp2_with fail
    refine (I2.out _).mono ?_
    rintro e w1 ⟨rfl, rfl⟩
    go_wp2
    go_ret
    exact ⟨rfl, (Below.refl _ _).alloc (Nat.le_refl _) _⟩

set_option maxHeartbeats 800000 in
theorem told_nanp (w : World) (p b : Nat) (hz : Int) (hh : hzB hz = true) (hp : p ≤ 18446744073709551615) (np : nanB p = true) : Calls Tryd.prog 75 #[RateV p b hz] w fun e w' => e = .returned (.int .i64 4) ∧ Below w.heap.size w w' := by
  have HC := Lib.hid (fun w => isHz4_any w hz)
  rw [hh] at HC
  have N1 := Lib.hid (fun w => isNaN_any w p hp)
  rw [np] at N1
  clear hh hp np
  go_enter Tryd.func75, Tryd.ntmps75
  go_wp2_with fail
  refine (HC.out _).mono ?_
  rintro e w1 ⟨rfl, rfl⟩
  go_wp2_with fail
  refine (N1.out _).mono ?_
  rintro e w1 ⟨rfl, rfl⟩
  go_wp2
  go_ret
  exact ⟨rfl, (Below.refl _ _).alloc (Nat.le_refl _) _⟩

set_option maxHeartbeats 800000 in
theorem told_nanb (w : World) (p b : Nat) (hz : Int) (hh : hzB hz = true) (hp : p ≤ 18446744073709551615) (hb : b ≤ 18446744073709551615) (np : nanB p = false) (nb : nanB b = true) : Calls Tryd.prog 75 #[RateV p b hz] w fun e w' => e = .returned (.int .i64 4) ∧ Below w.heap.size w w' := by
  have HC := Lib.hid (fun w => isHz4_any w hz)
  rw [hh] at HC
  have N1 := Lib.hid (fun w => isNaN_any w p hp)
  rw [np] at N1
  have N2 := Lib.hid (fun w => isNaN_any w b hb)
  rw [nb] at N2
  clear hh hp np hb nb
  go_enter Tryd.func75, Tryd.ntmps75
  go_wp2_with fail
  refine (HC.out _).mono ?_
  rintro e w1 ⟨rfl, rfl⟩
  go_wp2_with fail
  refine (N1.out _).mono ?_
  rintro e w1 ⟨rfl, rfl⟩
  go_wp2_with fail
  refine (N2.out _).mono ?_
  rintro e w1 ⟨rfl, rfl⟩
  go_wp2
  go_ret
  exact ⟨rfl, (Below.refl _ _).alloc (Nat.le_refl _) _⟩

set_option maxHeartbeats 800000 in
theorem told_plt (w : World) (p b : Nat) (hz : Int) (hh : hzB hz = true) (hp : p ≤ 18446744073709551615) (hb : b ≤ 18446744073709551615) (np : nanB p = false) (nb : nanB b = false) (p0 : FloatKind.f64.format.order p 0 = some .lt) : Calls Tryd.prog 75 #[RateV p b hz] w fun e w' => e = .returned (.int .i64 5) ∧ Below w.heap.size w w' := by
  have HC := Lib.hid (fun w => isHz4_any w hz)
  rw [hh] at HC
  have N1 := Lib.hid (fun w => isNaN_any w p hp)
  rw [np] at N1
  have N2 := Lib.hid (fun w => isNaN_any w b hb)
  rw [nb] at N2
  clear hh hp np hb nb
  go_enter Tryd.func75, Tryd.ntmps75
  go_wp2_with fail
  refine (HC.out _).mono ?_
  rintro e w1 ⟨rfl, rfl⟩
  go_wp2_with fail
  refine (N1.out _).mono ?_
  rintro e w1 ⟨rfl, rfl⟩
  go_wp2_with fail
  refine (N2.out _).mono ?_
  rintro e w1 ⟨rfl, rfl⟩
  go_wp2
  go_ret
  exact ⟨rfl, (Below.refl _ _).alloc (Nat.le_refl _) _⟩

set_option maxHeartbeats 800000 in
theorem told_peq (w : World) (p b : Nat) (hz : Int) (hh : hzB hz = true) (hp : p ≤ 18446744073709551615) (hb : b ≤ 18446744073709551615) (np : nanB p = false) (nb : nanB b = false) (p0 : FloatKind.f64.format.order p 0 = some .eq) : Calls Tryd.prog 75 #[RateV p b hz] w fun e w' => e = .returned (.int .i64 5) ∧ Below w.heap.size w w' := by
  have HC := Lib.hid (fun w => isHz4_any w hz)
  rw [hh] at HC
  have N1 := Lib.hid (fun w => isNaN_any w p hp)
  rw [np] at N1
  have N2 := Lib.hid (fun w => isNaN_any w b hb)
  rw [nb] at N2
  clear hh hp np hb nb
  go_enter Tryd.func75, Tryd.ntmps75
  go_wp2_with fail
  refine (HC.out _).mono ?_
  rintro e w1 ⟨rfl, rfl⟩
  go_wp2_with fail
  refine (N1.out _).mono ?_
  rintro e w1 ⟨rfl, rfl⟩
  go_wp2_with fail
  refine (N2.out _).mono ?_
  rintro e w1 ⟨rfl, rfl⟩
  go_wp2
  go_ret
  exact ⟨rfl, (Below.refl _ _).alloc (Nat.le_refl _) _⟩

set_option maxHeartbeats 800000 in
theorem told_pinf (w : World) (p b : Nat) (hz : Int) (hh : hzB hz = true) (hp : p ≤ 18446744073709551615) (hb : b ≤ 18446744073709551615) (np : nanB p = false) (nb : nanB b = false) (p0 : FloatKind.f64.format.order p 0 = some .gt) (ip : infB p = true) : Calls Tryd.prog 75 #[RateV p b hz] w fun e w' => e = .returned (.int .i64 5) ∧ Below w.heap.size w w' := by
  have HC := Lib.hid (fun w => isHz4_any w hz)
  rw [hh] at HC
  have N1 := Lib.hid (fun w => isNaN_any w p hp)
  rw [np] at N1
  have N2 := Lib.hid (fun w => isNaN_any w b hb)
  rw [nb] at N2
  have I1 := Lib.hid (fun w => isInf1_any w p hp np)
  rw [ip] at I1
  clear hh hp np hb nb ip
  go_enter Tryd.func75, Tryd.ntmps75
  go_wp2_with fail
  refine (HC.out _).mono ?_
  rintro e w1 ⟨rfl, rfl⟩
  go_wp2_with fail
  refine (N1.out _).mono ?_
  rintro e w1 ⟨rfl, rfl⟩
  go_wp2_with fail
  refine (N2.out _).mono ?_
  rintro e w1 ⟨rfl, rfl⟩
  go_wp2_with fail
  refine (I1.out _).mono ?_
  rintro e w1 ⟨rfl, rfl⟩
  go_wp2
  go_ret
  exact ⟨rfl, (Below.refl _ _).alloc (Nat.le_refl _) _⟩

set_option maxHeartbeats 800000 in
theorem told_blt (w : World) (p b : Nat) (hz : Int) (hh : hzB hz = true) (hp : p ≤ 18446744073709551615) (hb : b ≤ 18446744073709551615) (np : nanB p = false) (nb : nanB b = false) (p0 : FloatKind.f64.format.order p 0 = some .gt) (ip : infB p = false) (b0 : FloatKind.f64.format.order b 0 = some .lt) : Calls Tryd.prog 75 #[RateV p b hz] w fun e w' => e = .returned (.int .i64 5) ∧ Below w.heap.size w w' := by
  have HC := Lib.hid (fun w => isHz4_any w hz)
  rw [hh] at HC
  have N1 := Lib.hid (fun w => isNaN_any w p hp)
  rw [np] at N1
  have N2 := Lib.hid (fun w => isNaN_any w b hb)
  rw [nb] at N2
  have I1 := Lib.hid (fun w => isInf1_any w p hp np)
  rw [ip] at I1
  clear hh hp np hb nb ip
  go_enter Tryd.func75, Tryd.ntmps75
  go_wp2_with fail
  refine (HC.out _).mono ?_
  rintro e w1 ⟨rfl, rfl⟩
  go_wp2_with fail
  refine (N1.out _).mono ?_
  rintro e w1 ⟨rfl, rfl⟩
  go_wp2_with fail
  refine (N2.out _).mono ?_
  rintro e w1 ⟨rfl, rfl⟩
  go_wp2_with fail
  refine (I1.out _).mono ?_
  rintro e w1 ⟨rfl, rfl⟩
  go_wp2
  go_ret
  exact ⟨rfl, (Below.refl _ _).alloc (Nat.le_refl _) _⟩

set_option maxHeartbeats 800000 in
theorem told_binf (w : World) (p b : Nat) (hz : Int) (hh : hzB hz = true) (hp : p ≤ 18446744073709551615) (hb : b ≤ 18446744073709551615) (np : nanB p = false) (nb : nanB b = false) (p0 : FloatKind.f64.format.order p 0 = some .gt) (ip : infB p = false) (b0 : FloatKind.f64.format.order b 0 = some .gt) (ib : infB b = true) : Calls Tryd.prog 75 #[RateV p b hz] w fun e w' => e = .returned (.int .i64 5) ∧ Below w.heap.size w w' := by
  have HC := Lib.hid (fun w => isHz4_any w hz)
  rw [hh] at HC
  have N1 := Lib.hid (fun w => isNaN_any w p hp)
  rw [np] at N1
  have N2 := Lib.hid (fun w => isNaN_any w b hb)
  rw [nb] at N2
  have I1 := Lib.hid (fun w => isInf1_any w p hp np)
  rw [ip] at I1
  have I2 := Lib.hid (fun w => isInf1_any w b hb nb)
  rw [ib] at I2
  clear hh hp np hb nb ip ib
  go_enter Tryd.func75, Tryd.ntmps75
  go_wp2_with fail
  refine (HC.out _).mono ?_
  rintro e w1 ⟨rfl, rfl⟩
  go_wp2_with fail
  refine (N1.out _).mono ?_
  rintro e w1 ⟨rfl, rfl⟩
  go_wp2_with fail
  refine (N2.out _).mono ?_
  rintro e w1 ⟨rfl, rfl⟩
  go_wp2_with fail
  refine (I1.out _).mono ?_
  rintro e w1 ⟨rfl, rfl⟩
  go_wp2_with fail
  refine (I2.out _).mono ?_
  rintro e w1 ⟨rfl, rfl⟩
  go_wp2
  go_ret
  exact ⟨rfl, (Below.refl _ _).alloc (Nat.le_refl _) _⟩

/-- What told answers. -/
def toldV (p b : Nat) (hz : Int) : Int := if hzB hz = false then 1 else if nanB p = true ∨ nanB b = true then 4 else if le0B p = true ∨ infB p = true ∨ lt0B b = true ∨ infB b = true then 5 else 0
theorem told_any (w : World) (p b : Nat) (hz : Int) (hp : p ≤ 18446744073709551615) (hb : b ≤ 18446744073709551615) : Calls Tryd.prog 75 #[RateV p b hz] w fun e w' => e = .returned (.int .i64 (toldV p b hz)) ∧ Below w.heap.size w w' := by
  unfold toldV
  rcases hh : hzB hz with _ | _
  · rw [if_pos rfl]; exact told_hz w p b hz hh
  rw [if_neg (by decide)]
  rcases np : nanB p with _ | _
  · rcases nb : nanB b with _ | _
    · rw [if_neg (by decide)]
      have hs : ∀ c, infB c = true → szB c ≠ 0 := fun c h => by rw [of_decide_eq_true h]; decide
      rcases ord_nought hp np with ⟨a1, a2, a3⟩ | ⟨a1, a2, a3⟩ | ⟨a1, a2, a3⟩
      · rw [if_pos (.inl a1)]; exact told_peq w p b hz hh hp hb np nb a3
      · rw [if_pos (.inl a1)]; exact told_plt w p b hz hh hp hb np nb a3
      · rcases ip : infB p with _ | _
        · rcases ord_nought hb nb with ⟨b1, b2, b3⟩ | ⟨b1, b2, b3⟩ | ⟨b1, b2, b3⟩
          · rcases ib : infB b with _ | _
            · rw [if_neg (by rw [a1, b2]; decide)]
              exact told_ok w p b hz hh hp hb np nb a3 ip (.inr b3) ib
            · exfalso
              have := hs b ib
              unfold le0B lt0B at *
              rw [decide_eq_false this] at b1 b2
              simp only [Bool.false_or, Bool.not_false, Bool.true_and] at b1 b2
              rw [b1] at b2; cases b2
          · rw [if_pos (.inr (.inr (.inl b2)))]; exact told_blt w p b hz hh hp hb np nb a3 ip b3
          · rcases ib : infB b with _ | _
            · rw [if_neg (by rw [a1, b2]; decide)]
              exact told_ok w p b hz hh hp hb np nb a3 ip (.inl b3) ib
            · rw [if_pos (.inr (.inr (.inr rfl)))]; exact told_binf w p b hz hh hp hb np nb a3 ip b3 ib
        · rw [if_pos (.inr (.inl rfl))]; exact told_pinf w p b hz hh hp hb np nb a3 ip
    · rw [if_pos (.inr rfl)]; exact told_nanb w p b hz hh hp hb np nb
  · rw [if_pos (.inl rfl)]; exact told_nanp w p b hz hh hp np
end Go.Proofs.YtafboimlchjnaaaDoor


/- Contracts of package rate: gap, ahead. -/
namespace Go.Proofs.YtafboimlchjnaaaDoor
open Go.RowKit
set_option maxRecDepth 100000

def IB (w : World) (t : Int) (b : Bool) (e : Ending) (w' : World) : Prop := e = .returned (.tuple #[.int .i64 t, .bool b]) ∧ Below w.heap.size w w'

set_option maxHeartbeats 1600000 in
theorem gap_ok (w : World) (hz p m r1 r2 y1 y2 : Nat) (e x T : Int) (s ok : Bool) (hp : p ≤ 18446744073709551615) (hh : hz ≤ 1000000000) (hT : Tab w) (hv : exactV p = .tuple #[.bool s, .int .u64 (m : Int), .int .i64 e, .int .i64 0]) (hx : -e = x) (hx2 : wrap64 x = x)
    (hS : ∀ w, Calls Tryd.prog 60 #[.agg #[.int .u64 0, .int .u64 (hz : Int)], .int .i64 x, .int .i64 1] w (R2B w r1 r2 true))
    (hC : ∀ w, Calls Tryd.prog 100 #[.agg #[.int .u64 (r1 : Int), .int .u64 (r2 : Int)], .int .u64 (m : Int)] w (R2 w y1 y2))
    (hK : ∀ w, Calls Tryd.prog 61 #[.agg #[.int .u64 (y1 : Int), .int .u64 (y2 : Int)]] w (IB w T ok)) :
    Calls Tryd.prog 76 #[.int .i64 (hz : Int), .float .f64 p] w (IB w T ok) := by
  have HX := Lib.hid (exactP_any w p hp hT)
  rw [hv] at HX
  have HS := Lib.hid hS
  have HC := Lib.hid hC
  have HK := Lib.hid hK
  have uw : IntKind.u64.wrap (hz : Int) = (hz : Int) := u64_in (by omega) (by omega)
  clear hv hS hC hK hp hh hT
  go_enter Tryd.func76, Tryd.ntmps76
  go_wp2_with fail
  refine HX.out.mono ?_
  rintro e w1 ⟨rfl, n, rfl⟩
  go_wp2_with fail
  refine (HS.out _).mono ?_
  rintro e w2 ⟨rfl, hb2⟩
  have HB2 := Lib.hid ((below_drewN (Below.refl w.heap.size w) n).trans hb2)
  clear hb2
  go_wp2_with fail
  refine (HC.out _).mono ?_
  rintro e w3 ⟨rfl, hb3⟩
  have HB3 := Lib.hid ((HB2.out.alloc HB2.out.size _).trans (hb3.mono (by have := HB2.out.size; simp; omega)))
  clear hb3
  go_wp2_with fail
  refine (HK.out _).mono ?_
  rintro e w4 ⟨rfl, hb4⟩
  have HB4 := Lib.hid (HB3.out.trans (hb4.mono HB3.out.size))
  clear hb4
  go_wp2
  go_ret2
  exact ⟨rfl, HB4.out⟩

set_option maxHeartbeats 1600000 in
theorem gap_big (w : World) (hz p m r1 r2 : Nat) (e x : Int) (s : Bool) (hp : p ≤ 18446744073709551615) (hh : hz ≤ 1000000000) (hT : Tab w) (hv : exactV p = .tuple #[.bool s, .int .u64 (m : Int), .int .i64 e, .int .i64 0]) (hx : -e = x) (hx2 : wrap64 x = x)
    (hS : ∀ w, Calls Tryd.prog 60 #[.agg #[.int .u64 0, .int .u64 (hz : Int)], .int .i64 x, .int .i64 1] w (R2B w r1 r2 false)) :
    Calls Tryd.prog 76 #[.int .i64 (hz : Int), .float .f64 p] w (IB w 0 false) := by
  have HX := Lib.hid (exactP_any w p hp hT)
  rw [hv] at HX
  have HS := Lib.hid hS
  have uw : IntKind.u64.wrap (hz : Int) = (hz : Int) := u64_in (by omega) (by omega)
  clear hv hS hp hh hT
  go_enter Tryd.func76, Tryd.ntmps76
  go_wp2_with fail
  refine HX.out.mono ?_
  rintro e w1 ⟨rfl, n, rfl⟩
  go_wp2_with fail
  refine (HS.out _).mono ?_
  rintro e w2 ⟨rfl, hb2⟩
  have HB2 := Lib.hid ((below_drewN (Below.refl w.heap.size w) n).trans hb2)
  clear hb2
  go_wp2
  go_ret2
  exact ⟨rfl, HB2.out.alloc HB2.out.size _⟩

set_option maxHeartbeats 1600000 in
theorem ahead_ok (w : World) (t b m q1 q2 r1 r2 : Nat) (e T : Int) (s ok : Bool) (hb : b ≤ 18446744073709551615) (ht : t ≤ 4611686018427387903) (hT : Tab w) (hv : exactV b = .tuple #[.bool s, .int .u64 (m : Int), .int .i64 e, .int .i64 0])
    (hP : ∀ w, Calls Tryd.prog 59 #[.int .u64 (m : Int), .int .u64 (t : Int)] w (R2 w q1 q2))
    (hS : ∀ w, Calls Tryd.prog 60 #[.agg #[.int .u64 (q1 : Int), .int .u64 (q2 : Int)], .int .i64 e, .int .i64 0] w (R2B w r1 r2 true))
    (hK : ∀ w, Calls Tryd.prog 61 #[.agg #[.int .u64 (r1 : Int), .int .u64 (r2 : Int)]] w (IB w T ok)) :
    Calls Tryd.prog 77 #[.float .f64 b, .int .i64 (t : Int)] w (IB w T ok) := by
  have HX := Lib.hid (exactP_any w b hb hT)
  rw [hv] at HX
  have HP := Lib.hid hP
  have HS := Lib.hid hS
  have HK := Lib.hid hK
  have uw : IntKind.u64.wrap (t : Int) = (t : Int) := u64_in (by omega) (by omega)
  clear hv hS hP hK hb ht hT
  go_enter Tryd.func77, Tryd.ntmps77
  go_wp2_with fail
  refine HX.out.mono ?_
  rintro e w1 ⟨rfl, n, rfl⟩
  go_wp2_with fail
  refine (HP.out _).mono ?_
  rintro e w2 ⟨rfl, hb2⟩
  have HB2 := Lib.hid ((below_drewN (Below.refl w.heap.size w) n).trans hb2)
  clear hb2
  go_wp2_with fail
  refine (HS.out _).mono ?_
  rintro e w3 ⟨rfl, hb3⟩
  have HB3 := Lib.hid (HB2.out.trans (hb3.mono HB2.out.size))
  clear hb3
  go_wp2_with fail
  refine (HK.out _).mono ?_
  rintro e w4 ⟨rfl, hb4⟩
  have HB4 := Lib.hid ((HB3.out.alloc HB3.out.size _).trans (hb4.mono (by have := HB3.out.size; simp; omega)))
  clear hb4
  go_wp2
  go_ret2
  exact ⟨rfl, HB4.out⟩

set_option maxHeartbeats 1600000 in
theorem ahead_big (w : World) (t b m q1 q2 r1 r2 : Nat) (e : Int) (s : Bool) (hb : b ≤ 18446744073709551615) (ht : t ≤ 4611686018427387903) (hT : Tab w) (hv : exactV b = .tuple #[.bool s, .int .u64 (m : Int), .int .i64 e, .int .i64 0])
    (hP : ∀ w, Calls Tryd.prog 59 #[.int .u64 (m : Int), .int .u64 (t : Int)] w (R2 w q1 q2))
    (hS : ∀ w, Calls Tryd.prog 60 #[.agg #[.int .u64 (q1 : Int), .int .u64 (q2 : Int)], .int .i64 e, .int .i64 0] w (R2B w r1 r2 false)) :
    Calls Tryd.prog 77 #[.float .f64 b, .int .i64 (t : Int)] w (IB w 0 false) := by
  have HX := Lib.hid (exactP_any w b hb hT)
  rw [hv] at HX
  have HP := Lib.hid hP
  have HS := Lib.hid hS
  have uw : IntKind.u64.wrap (t : Int) = (t : Int) := u64_in (by omega) (by omega)
  clear hv hS hP hb ht hT
  go_enter Tryd.func77, Tryd.ntmps77
  go_wp2_with fail
  refine HX.out.mono ?_
  rintro e w1 ⟨rfl, n, rfl⟩
  go_wp2_with fail
  refine (HP.out _).mono ?_
  rintro e w2 ⟨rfl, hb2⟩
  have HB2 := Lib.hid ((below_drewN (Below.refl w.heap.size w) n).trans hb2)
  clear hb2
  go_wp2_with fail
  refine (HS.out _).mono ?_
  rintro e w3 ⟨rfl, hb3⟩
  have HB3 := Lib.hid (HB2.out.trans (hb3.mono HB2.out.size))
  clear hb3
  go_wp2
  go_ret2
  exact ⟨rfl, HB3.out.alloc HB3.out.size _⟩
end Go.Proofs.YtafboimlchjnaaaDoor


/- Contracts of package rate: gap, ahead, by the floats' numbers. -/
namespace Go.Proofs.YtafboimlchjnaaaDoor
open Go.RowKit
set_option maxRecDepth 100000

theorem up_le {N M c : Nat} (hM : 0 < M) : roundV N M 1 ≤ c ↔ N ≤ c * M := by
  constructor
  · intro h
    exact Nat.le_trans (roundV_up_ge N M hM) (Nat.mul_le_mul_right _ h)
  · intro h
    exact roundV_up_le h hM
theorem up_up {N D m : Nat} (hD : 0 < D) (hm : 0 < m) : roundV (roundV N D 1) m 1 = roundV N (D * m) 1 := by
  have key : ∀ c, roundV (roundV N D 1) m 1 ≤ c ↔ roundV N (D * m) 1 ≤ c := fun c => by
    rw [up_le hm, up_le hD, up_le (Nat.mul_pos hD hm), Nat.mul_assoc, Nat.mul_comm m D]
  exact Nat.le_antisymm ((key _).2 (Nat.le_refl _)) ((key _).1 (Nat.le_refl _))

/-- Ticks between two of a rate, and ticks ahead, without a bound. -/
def gapT (p hz : Nat) : Nat := roundV (hz * 2 ^ cE) (WS (szB p)) 1
def aheadT (b t : Nat) : Nat := roundV (WS (szB b) * t) (2 ^ cE) 0

theorem aheadT_ticks (b t : Nat) : aheadT b t = ticksN b t 0 := (ticksN_W b t 0).symm
theorem gapT_odd {p hz : Nat} (h0 : 0 < manS (szB p)) :
    gapT p hz = roundV (roundV (upN hz (-(expS (szB p) + tz 64 (manS (szB p))))) (dnN (-(expS (szB p) + tz 64 (manS (szB p))))) 1) (oddM (manS (szB p))) 1 := by
  have ho := tz_spec 64 (manS (szB p)) h0 (by have := manS_lt (szB p); omega)
  have hop : 0 < oddM (manS (szB p)) := by
    have := ho.1
    show 0 < manS (szB p) / 2 ^ tz 64 (manS (szB p))
    generalize manS (szB p) / 2 ^ tz 64 (manS (szB p)) = z at this
    omega
  rw [up_up (dnN_pos _) hop]
  unfold gapT
  have hw := WS_odd (s := szB p) h0
  have hc := cE_eq
  have hx := expS_pS (szB p)
  rw [hw]
  refine roundV_ratio (Nat.mul_pos hop (pow_pos2 _)) (Nat.mul_pos (dnN_pos _) hop) ?_ 1
  unfold upN dnN
  generalize tz 64 (manS (szB p)) = k at *
  generalize oddM (manS (szB p)) = m at *
  rw [Nat.mul_comm _ m, Nat.mul_assoc hz, Nat.mul_assoc hz, Nat.mul_left_comm (2 ^ cE), Nat.mul_left_comm (2 ^ _) m, ← Nat.pow_add, ← Nat.pow_add]
  refine congrArg (fun n => hz * (m * 2 ^ n)) ?_
  omega

def capI (n : Nat) : Int := if n ≤ 4611686018427387903 then (n : Int) else 0
def capB (n : Nat) : Bool := decide (n ≤ 4611686018427387903)
theorem tick_cap (v x y : Nat) (h : Two v x y) (hl : v < 340282366920938463463374607431768211456) (w : World) :
    Calls Tryd.prog 61 #[.agg #[.int .u64 (x : Int), .int .u64 (y : Int)]] w (IB w (capI v) (capB v)) := by
  unfold capI capB
  by_cases hv : v ≤ 4611686018427387903
  · rw [if_pos hv, decide_eq_true hv]; exact tick_ok w v x y h hv
  · rw [if_neg hv, decide_eq_false hv]; exact tick_no w v x y h hl hv

/-- A finite float above nought, taken apart. -/
theorem exact_pos {p : Nat} (h1 : szB p < 9218868437227405312) (h0 : 0 < szB p) :
    ∃ m : Nat, ∃ e : Int, exactV p = .tuple #[.bool (negB p), .int .u64 (m : Int), .int .i64 e, .int .i64 0] ∧ m = oddM (manS (szB p)) ∧ e = expS (szB p) + tz 64 (manS (szB p)) ∧ 0 < m ∧ m < 9007199254740992 ∧ -1074 ≤ e ∧ e ≤ 1035 ∧ 0 < manS (szB p) := by
  have hm : 0 < manS (szB p) := by
    have := manS_pS (szB p)
    rcases Nat.eq_zero_or_pos (pS (szB p)) with h | h
    · rw [h] at this; omega
    · have := manS_ge h; omega
  have hml := manS_lt (szB p)
  have ho := tz_spec 64 (manS (szB p)) hm (by omega)
  have hop : 0 < oddM (manS (szB p)) := by
    have := ho.1
    show 0 < manS (szB p) / 2 ^ tz 64 (manS (szB p))
    generalize manS (szB p) / 2 ^ tz 64 (manS (szB p)) = z at this
    omega
  have h4 : kindB p ≠ 4 ∧ kindB p ≠ 3 := by
    unfold kindB kindS
    constructor
    · repeat' split
      all_goals omega
    · repeat' split
      all_goals omega
  have heb := expS_bd (szB_lt p)
  have htz := tz_lt (m := manS (szB p)) hm (by omega)
  exact ⟨_, _, by unfold exactV; rw [if_neg h4.1, if_neg h4.2, if_neg (by omega)], rfl, rfl, hop, Nat.lt_of_le_of_lt (Nat.div_le_self _ _) hml, by omega, by omega, hm⟩

theorem gap_any (w : World) (hz p : Nat) (hp : p ≤ 18446744073709551615) (hh : hz ≤ 1000000000) (hh1 : 1 ≤ hz) (h1 : szB p < 9218868437227405312) (h0 : 0 < szB p) (hT : Tab w) :
    Calls Tryd.prog 76 #[.int .i64 (hz : Int), .float .f64 p] w (IB w (capI (gapT p hz)) (capB (gapT p hz))) := by
  obtain ⟨m, e, hv, hm, he, m0, m1, e1, e2, hman⟩ := exact_pos h1 h0
  have hg := gapT_odd (hz := hz) hman
  rw [← hm, ← he] at hg
  have hP : Two hz 0 hz := ⟨by omega, by omega⟩
  have hx2 : wrap64 (-e) = -e := by unfold wrap64; omega
  rcases Int.lt_or_le (-e) 0 with hneg | hpos
  · obtain ⟨j, hj⟩ : ∃ j : Nat, -e = -((j : Int) + 1) := ⟨(e - 1).toNat, by omega⟩
    obtain ⟨V, hV⟩ : ∃ V, roundV hz (2 ^ (j + 1)) 1 = V := ⟨_, rfl⟩
    rw [hj, tick_dn, hV] at hg
    have hVl : V ≤ hz + 1 := by
      rw [← hV]
      have a1 := roundV_le_succ hz (2 ^ (j + 1)) 1
      have a2 : hz / 2 ^ (j + 1) ≤ hz := Nat.div_le_self _ _
      omega
    obtain ⟨r1, r2, hR⟩ := Two.of V
    obtain ⟨y1, y2, hY⟩ := Two.of (roundV V m 1)
    have hYl : roundV V m 1 ≤ V + 1 := by
      have a1 := roundV_le_succ V m 1
      have a2 : V / m ≤ V := Nat.div_le_self _ _
      omega
    rw [hg]
    refine gap_ok w hz p m r1 r2 y1 y2 e (-e) _ _ _ hp hh hT hv rfl hx2 (fun w => ?_) (fun w => ceil_any w V r1 r2 m y1 y2 m0 (by omega) (by omega) hR hY) (fun w => tick_cap _ _ _ hY (by omega) w)
    have := scale_neg w hz 0 hz j 1 r1 r2 (-e) hj (by omega) (by omega) (by omega) hP (by rw [hV]; exact hR)
    exact this
  · obtain ⟨k, hk⟩ : ∃ k : Nat, -e = (k : Int) := ⟨(-e).toNat, by omega⟩
    rw [hk, tick_up] at hg
    obtain ⟨r1, r2, hR⟩ := Two.of (shl2 hz k)
    obtain ⟨a1, b1, hW⟩ := Two.of (shl2 hz k / 2 ^ k)
    have hq := scale_q hP hW
    by_cases hf : hz * 2 ^ k < 340282366920938463463374607431768211456
    · rw [decide_eq_true hf] at hq
      rw [shl2_fit hf] at hR
      have hf2 : hz * 2 ^ k < 340282366920938463463374607431768211455 := by
        rcases Nat.eq_zero_or_pos k with rfl | hk0
        · rw [Nat.pow_zero, Nat.mul_one]; omega
        · obtain ⟨i, rfl⟩ : ∃ i, k = i + 1 := ⟨k - 1, by omega⟩
          rw [Nat.pow_succ, ← Nat.mul_assoc] at hf ⊢
          omega
      obtain ⟨y1, y2, hY⟩ := Two.of (roundV (hz * 2 ^ k) m 1)
      have hYl : roundV (hz * 2 ^ k) m 1 ≤ hz * 2 ^ k + 1 := by
        have a1 := roundV_le_succ (hz * 2 ^ k) m 1
        have a2 : hz * 2 ^ k / m ≤ hz * 2 ^ k := Nat.div_le_self _ _
        omega
      rw [hg]
      refine gap_ok w hz p m r1 r2 y1 y2 e (-e) _ _ _ hp hh hT hv rfl hx2 (fun w => ?_) (fun w => ceil_any w _ r1 r2 m y1 y2 m0 (by omega) hf2 hR hY) (fun w => tick_cap _ _ _ hY (by omega) w)
      rw [hk]
      exact scale_pos w hz 0 hz k 1 r1 r2 a1 b1 (by omega) (by omega) hP (by rw [shl2_fit hf]; exact hR) hW hq
    · rw [decide_eq_false hf] at hq
      have hbig : ¬ gapT p hz ≤ 4611686018427387903 := by
        rw [hg, up_le m0]
        intro h
        have : 4611686018427387903 * m ≤ 4611686018427387903 * 9007199254740992 := Nat.mul_le_mul_left _ (by omega)
        omega
      unfold capI capB
      rw [if_neg hbig, decide_eq_false hbig]
      refine gap_big w hz p m 0 0 e (-e) _ hp hh hT hv rfl hx2 (fun w => ?_)
      rw [hk]
      exact scale_big w hz 0 hz k 1 r1 r2 a1 b1 (by omega) (by omega) hP hR hW hq
end Go.Proofs.YtafboimlchjnaaaDoor


/- Contracts of package rate: ahead by the floats' numbers; Of. -/
namespace Go.Proofs.YtafboimlchjnaaaDoor
open Go.RowKit
set_option maxRecDepth 100000

theorem aheadT_zero {b t : Nat} (h : szB b = 0) : aheadT b t = 0 := by
  unfold aheadT
  rw [h, WS_zero, Nat.zero_mul]
  have := roundV_whole (t := 0) (M := 2 ^ cE) (pow_pos2 _) 0
  rwa [Nat.zero_mul] at this

theorem ahead_any (w : World) (t b : Nat) (hb : b ≤ 18446744073709551615) (ht : t ≤ 4611686018427387903) (h1 : szB b < 9218868437227405312) (hT : Tab w) :
    Calls Tryd.prog 77 #[.float .f64 b, .int .i64 (t : Int)] w (IB w (capI (aheadT b t)) (capB (aheadT b t))) := by
  rcases Nat.eq_zero_or_pos (szB b) with h0 | h0
  · have hk : kindB b = 0 := by unfold kindB; rw [h0]; rfl
    have hv : exactV b = .tuple #[.bool (negB b), .int .u64 ((0 : Nat) : Int), .int .i64 ((0 : Nat) : Int), .int .i64 0] := by
      unfold exactV; rw [if_neg (by omega), if_neg (by omega), if_pos (by rw [h0]; rfl)]; rfl
    rw [aheadT_zero h0]
    have hP : Two (0 * t) 0 0 := by rw [Nat.zero_mul]; exact ⟨rfl, rfl⟩
    have hR : Two (shl2 (0 * t) 0) 0 0 := by rw [Nat.zero_mul]; exact ⟨rfl, rfl⟩
    have hW : Two (shl2 (0 * t) 0 / 2 ^ 0) 0 0 := by rw [Nat.zero_mul]; exact ⟨rfl, rfl⟩
    exact ahead_ok w t b 0 0 0 0 0 _ _ _ _ hb ht hT hv (fun w => product_at w 0 t 0 0 (by omega) (by omega) hP) (fun w => scale_pos w (0 * t) 0 0 0 0 0 0 0 0 (by omega) (by omega) hP hR hW rfl) (fun w => tick_cap 0 0 0 ⟨rfl, rfl⟩ (by omega) w)
  · obtain ⟨m, e, hv, hm, he, m0, m1, e1, e2, hman⟩ := exact_pos h1 h0
    have hg : aheadT b t = roundV (upN (m * t) e) (dnN e) 0 := by
      rw [aheadT_ticks, ticksN_odd, ← hm, ← he]; rfl
    have hmt : m * t < 340282366920938463463374607431768211455 := by
      have : m * t ≤ 9007199254740992 * 4611686018427387903 := Nat.mul_le_mul (by omega) ht
      omega
    obtain ⟨q1, q2, hP⟩ := Two.of (m * t)
    have HP := fun w => product_at w m t q1 q2 (by omega) (by omega) hP
    rcases Int.lt_or_le e 0 with hneg | hpos
    · obtain ⟨j, hj⟩ : ∃ j : Nat, e = -((j : Int) + 1) := ⟨(-e - 1).toNat, by omega⟩
      rw [hj, tick_dn] at hg
      obtain ⟨r1, r2, hR⟩ := Two.of (aheadT b t)
      have hl : aheadT b t < 340282366920938463463374607431768211456 := by rw [hg]; exact round_lt hmt
      exact ahead_ok w t b m q1 q2 r1 r2 e _ _ _ hb ht hT hv HP (fun w => scale_neg w (m * t) q1 q2 j 0 r1 r2 e hj (by omega) (by omega) (by omega) hP (by rw [← hg]; exact hR)) (fun w => tick_cap _ _ _ hR hl w)
    · obtain ⟨k, hk⟩ : ∃ k : Nat, e = (k : Int) := ⟨e.toNat, by omega⟩
      rw [hk, tick_up] at hg
      obtain ⟨r1, r2, hR⟩ := Two.of (shl2 (m * t) k)
      obtain ⟨a1, b1, hW⟩ := Two.of (shl2 (m * t) k / 2 ^ k)
      have hq := scale_q hP hW
      subst hk
      by_cases hf : m * t * 2 ^ k < 340282366920938463463374607431768211456
      · rw [decide_eq_true hf] at hq
        have hs := shl2_fit hf
        exact ahead_ok w t b m q1 q2 r1 r2 (k : Int) _ _ _ hb ht hT hv HP (fun w => scale_pos w (m * t) q1 q2 k 0 r1 r2 a1 b1 (by omega) (by omega) hP hR hW hq) (fun w => tick_cap _ _ _ (by rw [hg, ← hs]; exact hR) (by rw [hg]; exact hf) w)
      · rw [decide_eq_false hf] at hq
        have hbig : ¬ aheadT b t ≤ 4611686018427387903 := by rw [hg]; omega
        unfold capI capB
        rw [if_neg hbig, decide_eq_false hbig]
        exact ahead_big w t b m q1 q2 0 0 (k : Int) _ hb ht hT hv HP (fun w => scale_big w (m * t) q1 q2 k 0 r1 r2 a1 b1 (by omega) (by omega) hP hR hW hq)

def LimE (w : World) (T Tau c : Int) (e : Ending) (w' : World) : Prop := e = .returned (.tuple #[.agg #[.int .i64 T, .int .i64 Tau], .int .i64 c]) ∧ Below w.heap.size w w'

set_option maxHeartbeats 1600000 in
theorem of_bad (w : World) (p b : Nat) (hz c : Int) (hc : (c != 0) = true)
    (hD : ∀ w, Calls Tryd.prog 75 #[RateV p b hz] w fun e w' => e = .returned (.int .i64 c) ∧ Below w.heap.size w w') :
    Calls Tryd.prog 41 #[RateV p b hz] w (LimE w 0 0 c) := by
  have HD := Lib.hid hD
  clear hD
  go_enter Tryd.func41, Tryd.ntmps41
  go_wp2_with fail
  refine (HD.out _).mono ?_
  rintro e w1 ⟨rfl, hb1⟩
  have hz1 : w.heap.size + 2 ≤ w1.heap.size := by have := hb1.size; simpa using this
  have c0 : w1.cell? ⟨w.heap.size, 0, none⟩ = some (.float .f64 p) := by rw [hb1.cell (by simp; omega)]; simp
  have c1 : w1.cell? ⟨w.heap.size, 1, none⟩ = some (.float .f64 b) := by rw [hb1.cell (by simp; omega)]; simp
  have c2 : w1.cell? ⟨w.heap.size, 2, none⟩ = some (.int .i64 hz) := by rw [hb1.cell (by simp; omega)]; simp
  have R1 : Blk w1 (w.heap.size + 1) (.int .i64 0) (.int .i64 0) := (by simpa using Blk.new (w.alloc (.cells #[.float .f64 p, .float .f64 b, .int .i64 hz] 54)) (.int .i64 0) (.int .i64 0) 57 : Blk _ (w.heap.size + 1) _ _).below hb1
  have HB1 := Lib.hid (((Below.refl w.heap.size w).alloc (Nat.le_refl _) _).alloc (by simp) _ |>.trans (hb1.mono (by simp; omega)))
  have HR1 := Lib.hid R1
  clear hb1 R1
  obtain ⟨_, p0, p1, p2, p3⟩ := id HR1.out
  obtain ⟨u0, u1⟩ := HR1.out.put (.int .i64 (0)) (.int .i64 (0))
  go_wp2
  exact bodyPost_ret (v := .tuple #[.agg #[.int .i64 (0), .int .i64 (0)], .int .i64 (c)]) (by simp [results, Tryd.results41, go_sem, u0, u1]) rfl ⟨rfl, (HB1.out.setCell (by simp) _).setCell (by simp) _⟩

theorem tab_two {w w1 : World} {o1 o2 : Obj} (h : Tab w) (hb : Below ((w.alloc o1).alloc o2).heap.size ((w.alloc o1).alloc o2) w1) : Tab w1 :=
  (h.below (two_below w o1 o2)).below hb

set_option maxHeartbeats 1600000 in
theorem of_gap (w : World) (p b : Nat) (hz T : Int)
    (hD : ∀ w, Calls Tryd.prog 75 #[RateV p b hz] w fun e w' => e = .returned (.int .i64 0) ∧ Below w.heap.size w w') (hT : Tab w) (hG : ∀ w, Tab w → Calls Tryd.prog 76 #[.int .i64 hz, .float .f64 p] w (IB w T false)) :
    Calls Tryd.prog 41 #[RateV p b hz] w (LimE w 0 0 5) := by
  have HD := Lib.hid hD
  have HT := Lib.hid hT
  have HG := Lib.hid hG
  clear hD hG hT
  go_enter Tryd.func41, Tryd.ntmps41
  go_wp2_with fail
  refine (HD.out _).mono ?_
  rintro e w1 ⟨rfl, hb1⟩
  have hz1 : w.heap.size + 2 ≤ w1.heap.size := by have := hb1.size; simpa using this
  have c0 : w1.cell? ⟨w.heap.size, 0, none⟩ = some (.float .f64 p) := by rw [hb1.cell (by simp; omega)]; simp
  have c1 : w1.cell? ⟨w.heap.size, 1, none⟩ = some (.float .f64 b) := by rw [hb1.cell (by simp; omega)]; simp
  have c2 : w1.cell? ⟨w.heap.size, 2, none⟩ = some (.int .i64 hz) := by rw [hb1.cell (by simp; omega)]; simp
  have R1 : Blk w1 (w.heap.size + 1) (.int .i64 0) (.int .i64 0) := (by simpa using Blk.new (w.alloc (.cells #[.float .f64 p, .float .f64 b, .int .i64 hz] 54)) (.int .i64 0) (.int .i64 0) 57 : Blk _ (w.heap.size + 1) _ _).below hb1
  have HB1 := Lib.hid (((Below.refl w.heap.size w).alloc (Nat.le_refl _) _).alloc (by simp) _ |>.trans (hb1.mono (by simp; omega)))
  have HR1 := Lib.hid R1
  have HT1 := Lib.hid (tab_two HT.out hb1)
  clear hb1 R1
  go_wp2_with fail
  refine (HG.out _ HT1.out).mono ?_
  rintro e w2 ⟨rfl, hb2⟩
  have hz2 := hb2.size
  have d1 : w2.cell? ⟨w.heap.size, 1, none⟩ = some (.float .f64 b) := (hb2.cell (p := ⟨w.heap.size, 1, none⟩) (by show w.heap.size < _; omega)).trans c1
  have HR2 := Lib.hid (HR1.out.below hb2)
  have HT2 := Lib.hid (HT1.out.below hb2)
  have HB2 := Lib.hid (HB1.out.trans (hb2.mono (by omega)))
  clear hb2 c0 c1 c2
  obtain ⟨_, p0, p1, p2, p3⟩ := id HR2.out
  obtain ⟨u0, u1⟩ := HR2.out.put (.int .i64 (0)) (.int .i64 (0))
  go_wp2
  exact bodyPost_ret (v := .tuple #[.agg #[.int .i64 (0), .int .i64 (0)], .int .i64 (5)]) (by simp [results, Tryd.results41, go_sem, u0, u1]) rfl ⟨rfl, (HB2.out.setCell (by simp) _).setCell (by simp) _⟩

set_option maxHeartbeats 1600000 in
theorem of_ahead (w : World) (p b : Nat) (hz T Tau : Int)
    (hD : ∀ w, Calls Tryd.prog 75 #[RateV p b hz] w fun e w' => e = .returned (.int .i64 0) ∧ Below w.heap.size w w') (hT : Tab w) (hG : ∀ w, Tab w → Calls Tryd.prog 76 #[.int .i64 hz, .float .f64 p] w (IB w T true)) (hA : ∀ w, Tab w → Calls Tryd.prog 77 #[.float .f64 b, .int .i64 T] w (IB w Tau false)) :
    Calls Tryd.prog 41 #[RateV p b hz] w (LimE w 0 0 5) := by
  have HD := Lib.hid hD
  have HT := Lib.hid hT
  have HG := Lib.hid hG
  have HH := Lib.hid hA
  clear hD hG hT hA
  go_enter Tryd.func41, Tryd.ntmps41
  go_wp2_with fail
  refine (HD.out _).mono ?_
  rintro e w1 ⟨rfl, hb1⟩
  have hz1 : w.heap.size + 2 ≤ w1.heap.size := by have := hb1.size; simpa using this
  have c0 : w1.cell? ⟨w.heap.size, 0, none⟩ = some (.float .f64 p) := by rw [hb1.cell (by simp; omega)]; simp
  have c1 : w1.cell? ⟨w.heap.size, 1, none⟩ = some (.float .f64 b) := by rw [hb1.cell (by simp; omega)]; simp
  have c2 : w1.cell? ⟨w.heap.size, 2, none⟩ = some (.int .i64 hz) := by rw [hb1.cell (by simp; omega)]; simp
  have R1 : Blk w1 (w.heap.size + 1) (.int .i64 0) (.int .i64 0) := (by simpa using Blk.new (w.alloc (.cells #[.float .f64 p, .float .f64 b, .int .i64 hz] 54)) (.int .i64 0) (.int .i64 0) 57 : Blk _ (w.heap.size + 1) _ _).below hb1
  have HB1 := Lib.hid (((Below.refl w.heap.size w).alloc (Nat.le_refl _) _).alloc (by simp) _ |>.trans (hb1.mono (by simp; omega)))
  have HR1 := Lib.hid R1
  have HT1 := Lib.hid (tab_two HT.out hb1)
  clear hb1 R1
  go_wp2_with fail
  refine (HG.out _ HT1.out).mono ?_
  rintro e w2 ⟨rfl, hb2⟩
  have hz2 := hb2.size
  have d1 : w2.cell? ⟨w.heap.size, 1, none⟩ = some (.float .f64 b) := (hb2.cell (p := ⟨w.heap.size, 1, none⟩) (by show w.heap.size < _; omega)).trans c1
  have HR2 := Lib.hid (HR1.out.below hb2)
  have HT2 := Lib.hid (HT1.out.below hb2)
  have HB2 := Lib.hid (HB1.out.trans (hb2.mono (by omega)))
  clear hb2 c0 c1 c2
  go_wp2_with fail
  refine (HH.out _ HT2.out).mono ?_
  rintro e w3 ⟨rfl, hb3⟩
  have HR3 := Lib.hid (HR2.out.below hb3)
  have HB3 := Lib.hid (HB2.out.trans (hb3.mono (by omega)))
  clear hb3 d1
  obtain ⟨_, p0, p1, p2, p3⟩ := id HR3.out
  obtain ⟨u0, u1⟩ := HR3.out.put (.int .i64 (0)) (.int .i64 (0))
  go_wp2
  exact bodyPost_ret (v := .tuple #[.agg #[.int .i64 (0), .int .i64 (0)], .int .i64 (5)]) (by simp [results, Tryd.results41, go_sem, u0, u1]) rfl ⟨rfl, (HB3.out.setCell (by simp) _).setCell (by simp) _⟩

set_option maxHeartbeats 1600000 in
theorem of_good (w : World) (p b : Nat) (hz T Tau : Int)
    (hD : ∀ w, Calls Tryd.prog 75 #[RateV p b hz] w fun e w' => e = .returned (.int .i64 0) ∧ Below w.heap.size w w') (hT : Tab w) (hG : ∀ w, Tab w → Calls Tryd.prog 76 #[.int .i64 hz, .float .f64 p] w (IB w T true)) (hA : ∀ w, Tab w → Calls Tryd.prog 77 #[.float .f64 b, .int .i64 T] w (IB w Tau true)) :
    Calls Tryd.prog 41 #[RateV p b hz] w (LimE w T Tau 0) := by
  have HD := Lib.hid hD
  have HT := Lib.hid hT
  have HG := Lib.hid hG
  have HH := Lib.hid hA
  clear hD hG hT hA
  go_enter Tryd.func41, Tryd.ntmps41
  go_wp2_with fail
  refine (HD.out _).mono ?_
  rintro e w1 ⟨rfl, hb1⟩
  have hz1 : w.heap.size + 2 ≤ w1.heap.size := by have := hb1.size; simpa using this
  have c0 : w1.cell? ⟨w.heap.size, 0, none⟩ = some (.float .f64 p) := by rw [hb1.cell (by simp; omega)]; simp
  have c1 : w1.cell? ⟨w.heap.size, 1, none⟩ = some (.float .f64 b) := by rw [hb1.cell (by simp; omega)]; simp
  have c2 : w1.cell? ⟨w.heap.size, 2, none⟩ = some (.int .i64 hz) := by rw [hb1.cell (by simp; omega)]; simp
  have R1 : Blk w1 (w.heap.size + 1) (.int .i64 0) (.int .i64 0) := (by simpa using Blk.new (w.alloc (.cells #[.float .f64 p, .float .f64 b, .int .i64 hz] 54)) (.int .i64 0) (.int .i64 0) 57 : Blk _ (w.heap.size + 1) _ _).below hb1
  have HB1 := Lib.hid (((Below.refl w.heap.size w).alloc (Nat.le_refl _) _).alloc (by simp) _ |>.trans (hb1.mono (by simp; omega)))
  have HR1 := Lib.hid R1
  have HT1 := Lib.hid (tab_two HT.out hb1)
  clear hb1 R1
  go_wp2_with fail
  refine (HG.out _ HT1.out).mono ?_
  rintro e w2 ⟨rfl, hb2⟩
  have hz2 := hb2.size
  have d1 : w2.cell? ⟨w.heap.size, 1, none⟩ = some (.float .f64 b) := (hb2.cell (p := ⟨w.heap.size, 1, none⟩) (by show w.heap.size < _; omega)).trans c1
  have HR2 := Lib.hid (HR1.out.below hb2)
  have HT2 := Lib.hid (HT1.out.below hb2)
  have HB2 := Lib.hid (HB1.out.trans (hb2.mono (by omega)))
  clear hb2 c0 c1 c2
  go_wp2_with fail
  refine (HH.out _ HT2.out).mono ?_
  rintro e w3 ⟨rfl, hb3⟩
  have HR3 := Lib.hid (HR2.out.below hb3)
  have HB3 := Lib.hid (HB2.out.trans (hb3.mono (by omega)))
  clear hb3 d1
  obtain ⟨_, p0, p1, p2, p3⟩ := id HR3.out
  obtain ⟨u0, u1⟩ := HR3.out.put (.int .i64 (T)) (.int .i64 (Tau))
  go_wp2
  exact bodyPost_ret (v := .tuple #[.agg #[.int .i64 (T), .int .i64 (Tau)], .int .i64 (0)]) (by simp [results, Tryd.results41, go_sem, u0, u1]) rfl ⟨rfl, (HB3.out.setCell (by simp) _).setCell (by simp) _⟩
end Go.Proofs.YtafboimlchjnaaaDoor


/- Contract of package rate: Of, whatever the rate. -/
namespace Go.Proofs.YtafboimlchjnaaaDoor
open Go.RowKit
set_option maxRecDepth 100000

/-- What Of answers: T, Tau, the error. -/
def ofV (p b : Nat) (hz : Int) : Int × Int × Int :=
  if toldV p b hz ≠ 0 then (0, 0, toldV p b hz)
  else if capB (gapT p hz.toNat) = false then (0, 0, 5)
  else if capB (aheadT b (gapT p hz.toNat)) = false then (0, 0, 5)
  else ((gapT p hz.toNat : Nat), (aheadT b (gapT p hz.toNat) : Nat), 0)

theorem told_zero {p b : Nat} {hz : Int} (hp : p ≤ 18446744073709551615) (hb : b ≤ 18446744073709551615) (h : toldV p b hz = 0) :
    1 ≤ hz ∧ hz ≤ 1000000000 ∧ szB p < 9218868437227405312 ∧ 0 < szB p ∧ negB p = false ∧ szB b < 9218868437227405312 := by
  unfold toldV at h
  rcases hh : hzB hz with _ | _
  · rw [hh, if_pos rfl] at h; omega
  rw [hh, if_neg (by decide)] at h
  have h0 := of_decide_eq_true hh
  by_cases hn : nanB p = true ∨ nanB b = true
  · rw [if_pos hn] at h; omega
  rw [if_neg hn] at h
  by_cases hr : le0B p = true ∨ infB p = true ∨ lt0B b = true ∨ infB b = true
  · rw [if_pos hr] at h; omega
  have n1 : nanB p = false := by
    rcases e : nanB p with _ | _
    · rfl
    · exact absurd (.inl e) hn
  have n2 : nanB b = false := by
    rcases e : nanB b with _ | _
    · rfl
    · exact absurd (.inr e) hn
  have l1 := of_decide_eq_false n1
  have l2 := of_decide_eq_false n2
  have k1 : le0B p = false := by
    rcases e : le0B p with _ | _
    · rfl
    · exact absurd (.inl e) hr
  have k2 : infB p = false := by
    rcases e : infB p with _ | _
    · rfl
    · exact absurd (.inr (.inl e)) hr
  have k3 : lt0B b = false := by
    rcases e : lt0B b with _ | _
    · rfl
    · exact absurd (.inr (.inr (.inl e))) hr
  have k4 : infB b = false := by
    rcases e : infB b with _ | _
    · rfl
    · exact absurd (.inr (.inr (.inr e))) hr
  unfold le0B at k1
  rw [Bool.or_eq_false_iff] at k1
  have s1 := of_decide_eq_false k1.1
  have g1 := of_decide_eq_false k1.2
  have i1 := of_decide_eq_false k2
  have i2 := of_decide_eq_false k4
  refine ⟨h0.1, h0.2, ?_, by omega, k1.2, ?_⟩
  · rcases Nat.lt_or_ge (szB p) 9218868437227405312 with h1 | h1
    · exact h1
    · exfalso; apply i1
      have : szB p = p := Nat.mod_eq_of_lt (by omega)
      omega
  · rcases Nat.lt_or_ge (szB b) 9218868437227405312 with h1 | h1
    · exact h1
    · exfalso; apply i2
      unfold lt0B at k3
      rw [decide_eq_false (by omega), Bool.not_false, Bool.true_and] at k3
      have g2 := of_decide_eq_false k3
      have : szB b = b := Nat.mod_eq_of_lt (by omega)
      omega

theorem of_any (w : World) (p b : Nat) (hz : Int) (hp : p ≤ 18446744073709551615) (hb : b ≤ 18446744073709551615) (hT : Tab w) :
    Calls Tryd.prog 41 #[RateV p b hz] w (LimE w (ofV p b hz).1 (ofV p b hz).2.1 (ofV p b hz).2.2) := by
  have hD := fun w => told_any w p b hz hp hb
  unfold ofV
  by_cases h : toldV p b hz = 0
  · rw [if_neg (by omega)]
    rw [h] at hD
    obtain ⟨z1, z2, p1, p2, _, b1⟩ := told_zero hp hb h
    obtain ⟨n, rfl⟩ : ∃ n : Nat, hz = (n : Int) := ⟨hz.toNat, by omega⟩
    rw [Int.toNat_natCast]
    have hG := fun w hT => gap_any w n p hp (by omega) (by omega) p1 p2 hT
    rcases hg : capB (gapT p n) with _ | _
    · rw [hg] at hG
      rw [if_pos rfl]
      exact of_gap w p b n _ hD hT hG
    · rw [if_neg (by decide)]
      have hl := of_decide_eq_true hg
      have e : capI (gapT p n) = ((gapT p n : Nat) : Int) := if_pos hl
      rw [hg, e] at hG
      have hA := fun w hT => ahead_any w (gapT p n) b hb hl b1 hT
      rcases ha : capB (aheadT b (gapT p n)) with _ | _
      · rw [ha] at hA
        rw [if_pos rfl]
        exact of_ahead w p b n _ _ hD hT hG hA
      · rw [if_neg (by decide)]
        have e2 : capI (aheadT b (gapT p n)) = ((aheadT b (gapT p n) : Nat) : Int) := if_pos (of_decide_eq_true ha)
        rw [ha, e2] at hA
        exact of_good w p b n _ _ hD hT hG hA
  · rw [if_pos h]
    exact of_bad w p b hz _ (bne_iff_ne.2 h) hD
end Go.Proofs.YtafboimlchjnaaaDoor


/- The document's fixed calls of rate answer as it says. -/
namespace Go.Proofs.YtafboimlchjnaaaDoor
open Go.RowKit
set_option maxRecDepth 100000

theorem of_fixed : ofV 4612811918334230528 4613937818241073152 1000 = (400, 1200, 0) := by decide +kernel
theorem once_fixed : ofV 4612811918334230528 4613937818241073152 1000 = ofV 4612811918334230528 4613937818241073152 ((1000 : Nat) : Int) := rfl
end Go.Proofs.YtafboimlchjnaaaDoor


/- The document's fixed calls of rate answer as it says: awake. -/
namespace Go.Proofs.YtafboimlchjnaaaDoor
open Go.RowKit
set_option maxRecDepth 100000

theorem within_fixed : dwithV 400 1200 0 = .tuple #[.int .i64 4, .int .i64 0] := by
  have h : withV 400 1200 0 = 4 := by decide +kernel
  have h1 : checkV 400 1200 = 0 := by decide +kernel
  have h2 : isTick 0 = true := by decide +kernel
  unfold dwithV
  rw [if_neg (by rw [h1, h2]; decide)]
  show Value.tuple #[.int .i64 ((withV 400 1200 0 : Nat) : Int), .int .i64 0] = _
  rw [h]
  rfl
theorem check_fixed : checkV 400 1200 = 0 := by decide +kernel
theorem check_zero : checkV 0 0 = 1 := by decide +kernel

set_option maxHeartbeats 1600000 in
theorem awake4_any (w : World) (hT : Tab w) : Calls Tryd.prog 43 #[] w fun e w' => e = .returned (.bool true) ∧ Below w.heap.size w w' := by
  have HT := Lib.hid hT
  have H1 := Lib.hid (fun w hT => of_any w 4612811918334230528 4613937818241073152 1000 (by omega) (by omega) hT)
  have H2 := Lib.hid (fun w => onceP_any w 400 1200)
  have H3 := Lib.hid (fun w => checkP_any w 400 1200)
  have H4 := Lib.hid (fun w => checkP_any w 0 0)
  rw [of_fixed] at H1
  rw [within_fixed] at H2
  rw [check_fixed] at H3
  rw [check_zero] at H4
  clear hT
  go_enter Tryd.func43, Tryd.ntmps43
  go_wp2_with fail
  refine (H1.out _ HT.out).mono ?_
  rintro e w1 ⟨rfl, hb1⟩
  have HB1 := Lib.hid hb1
  clear hb1
  go_wp2_with fail
  refine (H2.out _).mono ?_
  rintro e w2 ⟨rfl, hb2⟩
  have hz2 : w1.heap.size + 1 ≤ w2.heap.size := by have := hb2.size; simpa using this
  have c0 : w2.cell? ⟨w1.heap.size, 0, none⟩ = some (.int .i64 400) := by rw [hb2.cell (by simp)]; simp
  have c1 : w2.cell? ⟨w1.heap.size, 1, none⟩ = some (.int .i64 1200) := by rw [hb2.cell (by simp)]; simp
  have HB2 := Lib.hid ((HB1.out.alloc HB1.out.size _).trans (hb2.mono (by have := HB1.out.size; simp; omega)))
  clear hb2
  go_wp2_with fail
  refine (H3.out _).mono ?_
  rintro e w3 ⟨rfl, hb3⟩
  have d0 : w3.cell? ⟨w1.heap.size, 0, none⟩ = some (.int .i64 400) := (hb3.cell (p := ⟨w1.heap.size, 0, none⟩) (by show w1.heap.size < _; omega)).trans c0
  have d1 : w3.cell? ⟨w1.heap.size, 1, none⟩ = some (.int .i64 1200) := (hb3.cell (p := ⟨w1.heap.size, 1, none⟩) (by show w1.heap.size < _; omega)).trans c1
  have HB3 := Lib.hid (HB2.out.trans (hb3.mono HB2.out.size))
  clear hb3 c0 c1
  go_wp2_with fail
  refine (H4.out _).mono ?_
  rintro e w4 ⟨rfl, hb4⟩
  have HB4 := Lib.hid (HB3.out.trans (hb4.mono HB3.out.size))
  clear hb4
  go_wp2
  go_ret
  exact ⟨rfl, HB4.out⟩
end Go.Proofs.YtafboimlchjnaaaDoor


/- Contract of package rate: Real, whatever the limit. -/
namespace Go.Proofs.YtafboimlchjnaaaDoor
open Go.RowKit
set_option maxRecDepth 100000

set_option maxHeartbeats 1600000 in
theorem realP_any (w : World) (T Tau hz : Int) (h1 : -9223372036854775808 ≤ hz) (h2 : hz ≤ 9223372036854775807) :
    Calls Tryd.prog 45 #[.agg #[.int .i64 T, .int .i64 Tau], .int .i64 hz] w (ValEnd w (drealV T Tau hz)) := by
  have HK := Lib.hid (fun w => checkP_any w T Tau)
  have HF := Lib.hid (fun w => isHz4_any w hz)
  rcases checkV_cases T Tau with hc | hc
  · have hc' := checkV_zero hc
    rcases hs : hzB hz with _ | _
    · have HV : Hid (drealV T Tau hz = .tuple #[.float .f64 0, .int .i64 1]) := Lib.hid (by
        have := of_decide_eq_false hs
        unfold drealV; rw [if_pos (.inr (by omega))])
      rw [hc] at HK
      rw [hs] at HF
      clear hc hs hc'
      go_enter Tryd.func45, Tryd.ntmps45
      go_wp2_with fail
      refine (HK.out _).mono ?_
      rintro e w1 ⟨rfl, hb1⟩
      have HB1 := Lib.hid hb1
      clear hb1
      go_wp2_with fail
      refine (HF.out _).mono ?_
      rintro e w2 ⟨rfl, rfl⟩
      go_wp2
      go_ret2
      exact ⟨by rw [HV.out]; rfl, ((Below.refl _ _).alloc (Nat.le_refl _) _).trans (HB1.out.mono (by simp))⟩
    · have hh := of_decide_eq_true hs
      have HV : Hid (drealV T Tau hz = .tuple #[.float .f64 (ratioB hz T), .int .i64 0]) := Lib.hid (by
        unfold drealV; rw [if_neg (by rw [hc]; omega)])
      have HR := Lib.hid (fun w => ratioP_any w hz T (by omega) (by omega) (by omega) (by omega))
      have hr : ratioV hz T = .tuple #[.float .f64 (ratioB hz T), .int .i64 0] := by unfold ratioV; rw [if_neg (by omega)]
      rw [hr] at HR
      rw [hc] at HK
      rw [hs] at HF
      clear hc hs hc' hh hr
      go_enter Tryd.func45, Tryd.ntmps45
      go_wp2_with fail
      refine (HK.out _).mono ?_
      rintro e w1 ⟨rfl, hb1⟩
      have hz1 : w.heap.size + 1 ≤ w1.heap.size := by have := hb1.size; simpa using this
      have c0 : w1.cell? ⟨w.heap.size, 0, none⟩ = some (.int .i64 T) := by rw [hb1.cell (by simp)]; simp
      have HB1 := Lib.hid hb1
      clear hb1
      go_wp2_with fail
      refine (HF.out _).mono ?_
      rintro e w2 ⟨rfl, rfl⟩
      go_wp2_with fail
      refine (HR.out _).mono ?_
      rintro e w2 ⟨rfl, n, rfl⟩
      go_wp2
      go_ret2
      exact ⟨by rw [HV.out]; rfl, below_drewN (((Below.refl _ _).alloc (Nat.le_refl _) _).trans (HB1.out.mono (by simp))) _⟩
  · have HV : Hid (drealV T Tau hz = .tuple #[.float .f64 0, .int .i64 1]) := Lib.hid (by unfold drealV; rw [if_pos (.inl (by rw [hc]; omega))])
    rw [hc] at HK
    clear hc
    go_enter Tryd.func45, Tryd.ntmps45
    go_wp2_with fail
    refine (HK.out _).mono ?_
    rintro e w1 ⟨rfl, hb1⟩
    have HB1 := Lib.hid hb1
    clear hb1
    go_wp2
    go_ret2
    exact ⟨by rw [HV.out]; rfl, ((Below.refl _ _).alloc (Nat.le_refl _) _).trans (HB1.out.mono (by simp))⟩
end Go.Proofs.YtafboimlchjnaaaDoor
