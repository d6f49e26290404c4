/- Contracts of limits: the program's Check, Within, Once, and the document's Check. -/
import Derived.Test.YtnkecjjfbllgdaaComp
import Derived.Test.YtnkecjjfbllgdaaTick
import Derived.Handy
import Derived.Deep.RegionHeld3
namespace Go.Proofs.Ytnkecjjfbllgdaa
open Go.RowKit
set_option maxRecDepth 100000

/-- What the document's Check answers. -/
def checkV (T Tau : Int) : Int := if 1 ≤ T ∧ isTick T = true ∧ isTick Tau = true then 0 else 1
theorem checkV_ok {T Tau : Int} (h1 : 1 ≤ T) (h2 : isTick T = true) (h3 : isTick Tau = true) : checkV T Tau = 0 := by unfold checkV; rw [if_pos ⟨h1, h2, h3⟩]
theorem checkV_bad {T Tau : Int} (h : ¬ (1 ≤ T ∧ isTick T = true ∧ isTick Tau = true)) : checkV T Tau = 1 := by unfold checkV; rw [if_neg h]

set_option maxRecDepth 100000 in
set_option maxHeartbeats 800000 in
theorem check4_any (w : World) (T Tau : Int) : Calls Try.prog 46 #[.agg #[.int .i64 T, .int .i64 Tau]] w fun e w' => e = .returned (.int .i64 (checkV T Tau)) ∧ Below w.heap.size w w' := by
  have HF := Lib.hid (fun w => rform_any w T)
  have HG := Lib.hid (fun w => rform_any w Tau)
  by_cases h1 : T < 1
  · have HV := Lib.hid (checkV_bad (T := T) (Tau := Tau) (by omega))
    go_enter Try.func46, Try.ntmps46
    go_wp2
    go_ret
    exact ⟨by rw [HV.out]; rfl, (Below.refl _ _).alloc (Nat.le_refl _) _⟩
  · rcases hT : isTick T with _ | _
    · have HV := Lib.hid (checkV_bad (T := T) (Tau := Tau) (by rw [hT]; simp))
      rw [hT] at HF
      clear hT
      go_enter Try.func46, Try.ntmps46
      go_wp2_with fail
      refine (HF.out _).mono ?_
      rintro e w1 ⟨rfl, rfl⟩
      go_wp2
      go_ret
      exact ⟨by rw [HV.out]; rfl, (Below.refl _ _).alloc (Nat.le_refl _) _⟩
    · rw [hT] at HF
      rcases hU : isTick Tau with _ | _
      · have HV := Lib.hid (checkV_bad (T := T) (Tau := Tau) (by rw [hU]; simp))
        rw [hU] at HG
        clear hT hU
        go_enter Try.func46, Try.ntmps46
        go_wp2_with fail
        refine (HF.out _).mono ?_
        rintro e w1 ⟨rfl, rfl⟩
        go_wp2_with fail
        refine (HG.out _).mono ?_
        rintro e w1 ⟨rfl, rfl⟩
        go_wp2
        go_ret
        exact ⟨by rw [HV.out]; rfl, (Below.refl _ _).alloc (Nat.le_refl _) _⟩
      · have HV := Lib.hid (checkV_ok (T := T) (Tau := Tau) (by omega) hT hU)
        rw [hU] at HG
        clear hT hU
        go_enter Try.func46, Try.ntmps46
        go_wp2_with fail
        refine (HF.out _).mono ?_
        rintro e w1 ⟨rfl, rfl⟩
        go_wp2_with fail
        refine (HG.out _).mono ?_
        rintro e w1 ⟨rfl, rfl⟩
        go_wp2
        go_ret
        exact ⟨by rw [HV.out]; rfl, (Below.refl _ _).alloc (Nat.le_refl _) _⟩

/-- What Within answers of a limit and a span. -/
def withV (T Tau span : Nat) : Nat := (span + Tau) / T + 1
def dwithV (T Tau span : Int) : Value := if checkV T Tau ≠ 0 ∨ isTick span = false then .tuple #[.int .i64 0, .int .i64 1] else .tuple #[.int .i64 (withV T.toNat Tau.toNat span.toNat : Int), .int .i64 0]
theorem checkV_zero {T Tau : Int} (h : checkV T Tau = 0) : 1 ≤ T ∧ T ≤ 4611686018427387903 ∧ 0 ≤ Tau ∧ Tau ≤ 4611686018427387903 := by
  unfold checkV at h
  split at h
  · rename_i h'
    have h2 := isTick_iff.1 h'.2.1
    have h3 := isTick_iff.1 h'.2.2
    omega
  · omega
theorem checkV_cases (T Tau : Int) : checkV T Tau = 0 ∨ checkV T Tau = 1 := by unfold checkV; split <;> simp

set_option maxHeartbeats 800000 in
theorem checkP_any (w : World) (T Tau : Int) : Calls Try.prog 43 #[.agg #[.int .i64 T, .int .i64 Tau]] w fun e w' => e = .returned (.int .i64 (checkV T Tau)) ∧ Below w.heap.size w w' := by
  have HF := Lib.hid (fun w => tform_any w T)
  have HG := Lib.hid (fun w => tform_any w Tau)
  by_cases h1 : T = 0
  · have HV := Lib.hid (checkV_bad (T := T) (Tau := Tau) (by omega))
    have q : (T == 0) = true := by simp [h1]
    clear h1
    go_enter Try.func43, Try.ntmps43
    go_wp2
    go_ret
    exact ⟨by rw [HV.out]; rfl, (Below.refl _ _).alloc (Nat.le_refl _) _⟩
  · have q : (T == 0) = false := by simp [h1]
    rcases hT : isTick T with _ | _
    · have HV := Lib.hid (checkV_bad (T := T) (Tau := Tau) (by rw [hT]; simp))
      rw [hT] at HF
      clear hT h1
      go_enter Try.func43, Try.ntmps43
      go_wp2_with fail
      refine (HF.out _).mono ?_
      rintro e w1 ⟨rfl, rfl⟩
      go_wp2
      go_ret
      exact ⟨by rw [HV.out]; rfl, (Below.refl _ _).alloc (Nat.le_refl _) _⟩
    · rw [hT] at HF
      rcases hU : isTick Tau with _ | _
      · have HV := Lib.hid (checkV_bad (T := T) (Tau := Tau) (by rw [hU]; simp))
        rw [hU] at HG
        clear hT hU h1
        go_enter Try.func43, Try.ntmps43
        go_wp2_with fail
        refine (HF.out _).mono ?_
        rintro e w1 ⟨rfl, rfl⟩
        go_wp2_with fail
        refine (HG.out _).mono ?_
        rintro e w1 ⟨rfl, rfl⟩
        go_wp2
        go_ret
        exact ⟨by rw [HV.out]; rfl, (Below.refl _ _).alloc (Nat.le_refl _) _⟩
      · have HV := Lib.hid (checkV_ok (T := T) (Tau := Tau) (by have := isTick_iff.1 hT; omega) hT hU)
        rw [hU] at HG
        clear hT hU h1
        go_enter Try.func43, Try.ntmps43
        go_wp2_with fail
        refine (HF.out _).mono ?_
        rintro e w1 ⟨rfl, rfl⟩
        go_wp2_with fail
        refine (HG.out _).mono ?_
        rintro e w1 ⟨rfl, rfl⟩
        go_wp2
        go_ret
        exact ⟨by rw [HV.out]; rfl, (Below.refl _ _).alloc (Nat.le_refl _) _⟩

set_option maxHeartbeats 1600000 in
theorem withinP_any (w : World) (T Tau span : Int) : Calls Try.prog 25 #[.agg #[.int .i64 T, .int .i64 Tau], .int .i64 span] w (ValEnd w (dwithV T Tau span)) := by
  have HK := Lib.hid (fun w => checkP_any w T Tau)
  have HF := Lib.hid (fun w => tform_any w span)
  rcases checkV_cases T Tau with hc | hc
  · rcases hs : isTick span with _ | _
    · have HV : Hid (dwithV T Tau span = .tuple #[.int .i64 0, .int .i64 1]) := Lib.hid (by unfold dwithV; rw [if_pos (.inr hs)])
      rw [hc] at HK
      rw [hs] at HF
      clear hc hs
      go_enter Try.func25, Try.ntmps25
      go_wp2_with fail
      refine (HK.out _).mono ?_
      rintro e w1 ⟨rfl, hb1⟩
      have HB1 := Lib.hid hb1
      clear hb1
      go_wp2_with fail
      refine (HF.out _).mono ?_
      rintro e w2 ⟨rfl, rfl⟩
      go_wp2
      go_ret2
      exact ⟨by rw [HV.out]; rfl, ((Below.refl _ _).alloc (Nat.le_refl _) _).trans (HB1.out.mono (by simp))⟩
    · have hb := checkV_zero hc
      have ht := isTick_iff.1 hs
      obtain ⟨t, rfl⟩ : ∃ t : Nat, T = (t : Int) := ⟨T.natAbs, by omega⟩
      obtain ⟨u, rfl⟩ : ∃ u : Nat, Tau = (u : Int) := ⟨Tau.natAbs, by omega⟩
      obtain ⟨s, rfl⟩ : ∃ s : Nat, span = (s : Int) := ⟨span.natAbs, by omega⟩
      obtain ⟨q, hq⟩ : ∃ q, (s + u) / t = q := ⟨_, rfl⟩
      have hql : q ≤ s + u := by rw [← hq]; exact Nat.div_le_self _ _
      have HV : Hid (dwithV t u s = .tuple #[.int .i64 ((q + 1 : Nat) : Int), .int .i64 0]) := Lib.hid (by unfold dwithV; rw [if_neg (by rw [hc, hs]; simp)]; unfold withV; rw [← hq]; rfl)
      have e1 : ((s : Int) + (u : Int)).tdiv (t : Int) = (q : Int) := by
        rw [← hq]; exact tdiv_nat (s + u) t
      have e2 : wrap64 (q : Int) = (q : Int) := by unfold wrap64; omega
      have e3 : wrap64 ((q : Int) + 1) = (q : Int) + 1 := by unfold wrap64; omega
      have e4 : IntKind.i64.wrap (q : Int) = (q : Int) := IntWalk.i64_in _ (by omega)
      have b0 : (0 : Int) ≤ q := by omega
      have b1 : (q : Int) ≤ 9223372036854775806 := by omega
      have t1 : ((t : Int) == 0) = false := beq_eq_false_iff_ne.2 (by omega)
      have t2 : ¬ (t : Int) = 0 := by omega
      have t3 : (s : Int) ≤ 4611686018427387903 := by omega
      have t4 : (u : Int) ≤ 4611686018427387903 := by omega
      have t5 : (0 : Int) ≤ s := by omega
      have t6 : (0 : Int) ≤ u := by omega
      rw [hc] at HK
      rw [hs] at HF
      clear hc hs hq hql hb ht
      go_enter Try.func25, Try.ntmps25
      go_wp2_with fail
      refine (HK.out _).mono ?_
      rintro e w1 ⟨rfl, hb1⟩
      have hz1 : w.heap.size + 1 ≤ w1.heap.size := by have := hb1.size; simpa using this
      have ha1 : w1.cell? ⟨w.heap.size, 0, none⟩ = some (.int .i64 (t : Int)) := by rw [hb1.cell (by simp)]; simp
      have ha2 : w1.cell? ⟨w.heap.size, 1, none⟩ = some (.int .i64 (u : Int)) := by rw [hb1.cell (by simp)]; simp
      have HB1 := Lib.hid hb1
      clear hb1
      go_wp2_with fail
      refine (HF.out _).mono ?_
      rintro e w2 ⟨rfl, rfl⟩
      go_wp2
      go_ret2
      exact ⟨by rw [HV.out]; rfl, ((Below.refl _ _).alloc (Nat.le_refl _) _).trans (HB1.out.mono (by simp))⟩
  · have HV : Hid (dwithV T Tau span = .tuple #[.int .i64 0, .int .i64 1]) := Lib.hid (by unfold dwithV; rw [if_pos (.inl (by rw [hc]; omega))])
    rw [hc] at HK
    clear hc
    go_enter Try.func25, Try.ntmps25
    go_wp2_with fail
    refine (HK.out _).mono ?_
    rintro e w1 ⟨rfl, hb1⟩
    have HB1 := Lib.hid hb1
    clear hb1
    go_wp2
    go_ret2
    exact ⟨by rw [HV.out]; rfl, ((Below.refl _ _).alloc (Nat.le_refl _) _).trans (HB1.out.mono (by simp))⟩

theorem dwithV_shape (T Tau span : Int) : ∃ n f : Int, dwithV T Tau span = .tuple #[.int .i64 n, .int .i64 f] := by
  unfold dwithV; split
  · exact ⟨_, _, rfl⟩
  · exact ⟨_, _, rfl⟩
set_option maxHeartbeats 800000 in
theorem onceP_any (w : World) (T Tau : Int) : Calls Try.prog 108 #[.agg #[.int .i64 T, .int .i64 Tau]] w (ValEnd w (dwithV T Tau 0)) := by
  obtain ⟨n, f, hv⟩ := dwithV_shape T Tau 0
  have HW := Lib.hid (fun w => withinP_any w T Tau 0)
  rw [hv] at HW
  have HV := Lib.hid hv
  clear hv
  go_enter Try.func108, Try.ntmps108
  go_wp2_with fail
  refine (HW.out _).mono ?_
  rintro e w1 ⟨rfl, hb1⟩
  have HB1 := Lib.hid hb1
  clear hb1
  go_wp2
  go_ret2
  exact ⟨by rw [HV.out]; rfl, ((Below.refl _ _).alloc (Nat.le_refl _) _).trans (HB1.out.mono (by simp))⟩
end Go.Proofs.Ytnkecjjfbllgdaa
