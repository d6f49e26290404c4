/- Contracts: the document's answers on limits: Check, Real, Within. -/
import Derived.Test.YtafboimlchjnaaaDoorRatio
import Derived.Handy
import Derived.Deep.RegionHeld3
namespace Go.Proofs.YtafboimlchjnaaaDoor
open Go.RowKit
set_option maxRecDepth 100000

/-- What the document's Check answers. -/
def checkV (T Tau : Int) : Int := if 1 ≤ T ∧ isTick T = true ∧ isTick Tau = true then 0 else 1
theorem checkV_ok {T Tau : Int} (h1 : 1 ≤ T) (h2 : isTick T = true) (h3 : isTick Tau = true) : checkV T Tau = 0 := by unfold checkV; rw [if_pos ⟨h1, h2, h3⟩]
theorem checkV_bad {T Tau : Int} (h : ¬ (1 ≤ T ∧ isTick T = true ∧ isTick Tau = true)) : checkV T Tau = 1 := by unfold checkV; rw [if_neg h]

set_option maxRecDepth 100000 in
set_option maxHeartbeats 800000 in
theorem check4_any (w : World) (T Tau : Int) : Calls Tryd.prog 50 #[.agg #[.int .i64 T, .int .i64 Tau]] w fun e w' => e = .returned (.int .i64 (checkV T Tau)) ∧ Below w.heap.size w w' := by
  have HF := Lib.hid (fun w => rform_any w T)
  have HG := Lib.hid (fun w => rform_any w Tau)
  by_cases h1 : T < 1
  · have HV := Lib.hid (checkV_bad (T := T) (Tau := Tau) (by omega))
    go_enter Tryd.func50, Tryd.ntmps50
    go_wp2
    go_ret
    exact ⟨by rw [HV.out]; rfl, (Below.refl _ _).alloc (Nat.le_refl _) _⟩
  · rcases hT : isTick T with _ | _
    · have HV := Lib.hid (checkV_bad (T := T) (Tau := Tau) (by rw [hT]; simp))
      rw [hT] at HF
      clear hT
      go_enter Tryd.func50, Tryd.ntmps50
      go_wp2_with fail
      refine (HF.out _).mono ?_
      rintro e w1 ⟨rfl, rfl⟩
      go_wp2
      go_ret
      exact ⟨by rw [HV.out]; rfl, (Below.refl _ _).alloc (Nat.le_refl _) _⟩
    · rw [hT] at HF
      rcases hU : isTick Tau with _ | _
      · have HV := Lib.hid (checkV_bad (T := T) (Tau := Tau) (by rw [hU]; simp))
        rw [hU] at HG
        clear hT hU
        go_enter Tryd.func50, Tryd.ntmps50
        go_wp2_with fail
        refine (HF.out _).mono ?_
        rintro e w1 ⟨rfl, rfl⟩
        go_wp2_with fail
        refine (HG.out _).mono ?_
        rintro e w1 ⟨rfl, rfl⟩
        go_wp2
        go_ret
        exact ⟨by rw [HV.out]; rfl, (Below.refl _ _).alloc (Nat.le_refl _) _⟩
      · have HV := Lib.hid (checkV_ok (T := T) (Tau := Tau) (by omega) hT hU)
        rw [hU] at HG
        clear hT hU
        go_enter Tryd.func50, Tryd.ntmps50
        go_wp2_with fail
        refine (HF.out _).mono ?_
        rintro e w1 ⟨rfl, rfl⟩
        go_wp2_with fail
        refine (HG.out _).mono ?_
        rintro e w1 ⟨rfl, rfl⟩
        go_wp2
        go_ret
        exact ⟨by rw [HV.out]; rfl, (Below.refl _ _).alloc (Nat.le_refl _) _⟩

/-- What Within answers of a limit and a span. -/
def withV (T Tau span : Nat) : Nat := (span + Tau) / T + 1
set_option maxRecDepth 100000 in
set_option maxHeartbeats 1600000 in
theorem within4_any (w : World) (T Tau span : Nat) (h1 : 1 ≤ T) (h2 : T ≤ 4611686018427387903) (h3 : Tau ≤ 4611686018427387903) (h4 : span ≤ 4611686018427387903) :
    Calls Tryd.prog 80 #[.agg #[.int .i64 (T : Int), .int .i64 (Tau : Int)], .int .i64 (span : Int)] w fun e w' => e = .returned (.int .i64 (withV T Tau span : Int)) ∧ Below w.heap.size w w' := by
  have es : IntKind.u64.wrap (span : Int) = (span : Int) := u64_in (by omega) (by omega)
  have eu : IntKind.u64.wrap (Tau : Int) = (Tau : Int) := u64_in (by omega) (by omega)
  have et : IntKind.u64.wrap (T : Int) = (T : Int) := u64_in (by omega) (by omega)
  go_enter Tryd.func80, Tryd.ntmps80
  go_wp2_with fail
  go_region_held3 (fun w' => w'.cell? ⟨w.heap.size, 0, none⟩ = some (.int .i64 (T : Int)) ∧ w'.cell? ⟨w.heap.size, 1, none⟩ = some (.int .i64 (Tau : Int)))
    (go_keep)
    (first
      | ((with_reducible refine (word_any _ span (by omega)).mono ?_); rintro e w1 ⟨A1, n1, c1, xs1, rfl, hh1, hl1, hbk⟩; have hz1 : w.heap.size + 1 ≤ w1.heap.size := (by have := hbk.size; simpa using this); have ha1 : w1.cell? ⟨w.heap.size, 0, none⟩ = some (.int .i64 (T : Int)) := (by rw [hbk.cell (by simp)]; simp); have hb1 : w1.cell? ⟨w.heap.size, 1, none⟩ = some (.int .i64 (Tau : Int)) := (by rw [hbk.cell (by simp)]; simp); have HN1 := Lib.hid hh1; have HB1 := Lib.hid hbk; clear hh1 hbk)
      | ((with_reducible refine (word_any _ Tau (by omega)).mono ?_); rintro e w2 ⟨A2, n2, c2, xs2, rfl, hh2, hl2, hbk⟩; have hz2 : w1.heap.size ≤ w2.heap.size := (by have := hbk.size; simpa using this); have ha2 : w2.cell? ⟨w.heap.size, 0, none⟩ = some (.int .i64 (T : Int)) := (by rw [hbk.cell (by simp; omega)]; simpa using ha1); have hb2 : w2.cell? ⟨w.heap.size, 1, none⟩ = some (.int .i64 (Tau : Int)) := (by rw [hbk.cell (by simp; omega)]; simpa using hb1); have HN2 := Lib.hid hh2; have HB2 := Lib.hid hbk; clear hh2 hbk)
      | ((with_reducible refine (plus_any _ _ _ _ _ _ _ _ _ span Tau (HN1.out.below HB2.out) HN2.out (by omega) (by omega)).mono ?_); rintro e w3 ⟨A3, n3, c3, xs3, rfl, hh3, hl3, hbk⟩; have hz3 : w2.heap.size ≤ w3.heap.size := (by have := hbk.size; simpa using this); have ha3 : w3.cell? ⟨w.heap.size, 0, none⟩ = some (.int .i64 (T : Int)) := (by rw [hbk.cell (by simp; omega)]; simpa using ha2); have hb3 : w3.cell? ⟨w.heap.size, 1, none⟩ = some (.int .i64 (Tau : Int)) := (by rw [hbk.cell (by simp; omega)]; simpa using hb2); have HN3 := Lib.hid hh3; have HB3 := Lib.hid hbk; clear hh3 hbk)
      | ((with_reducible refine (word_any _ T (by omega)).mono ?_); rintro e w4 ⟨A4, n4, c4, xs4, rfl, hh4, hl4, hbk⟩; have hz4 : w3.heap.size ≤ w4.heap.size := (by have := hbk.size; simpa using this); have ha4 : w4.cell? ⟨w.heap.size, 0, none⟩ = some (.int .i64 (T : Int)) := (by rw [hbk.cell (by simp; omega)]; simpa using ha3); have hb4 : w4.cell? ⟨w.heap.size, 1, none⟩ = some (.int .i64 (Tau : Int)) := (by rw [hbk.cell (by simp; omega)]; simpa using hb3); have HN4 := Lib.hid hh4; have HB4 := Lib.hid hbk; clear hh4 hbk)
      | ((with_reducible refine (quo_any _ _ _ _ _ _ _ _ _ (span + Tau) T (HN3.out.below HB4.out) HN4.out (by omega) (by omega) (by omega)).mono ?_); rintro e w5 ⟨A5, n5, c5, xs5, A6, n6, c6, xs6, rfl, hh5, hh6, hl5, hbk⟩; have hz5 : w4.heap.size ≤ w5.heap.size := (by have := hbk.size; simpa using this); have ha5 : w5.cell? ⟨w.heap.size, 0, none⟩ = some (.int .i64 (T : Int)) := (by rw [hbk.cell (by simp; omega)]; simpa using ha4); have hb5 : w5.cell? ⟨w.heap.size, 1, none⟩ = some (.int .i64 (Tau : Int)) := (by rw [hbk.cell (by simp; omega)]; simpa using hb4); have HN5 := Lib.hid hh5; have HB5 := Lib.hid hbk; clear hh5 hh6 hbk))
  have HBW : Hid (Below w.heap.size w w5) := by
    have b0 : Below w.heap.size w (w.alloc (.cells #[.int .i64 (T : Int), .int .i64 (Tau : Int)] 57)).drew := ((Below.refl _ _).alloc (Nat.le_refl _) _).drew
    exact Lib.hid (((((b0.trans (HB1.out.mono (by simp))).trans (HB2.out.mono (by omega))).trans (HB3.out.mono (by omega))).trans (HB4.out.mono (by omega))).trans (HB5.out.mono (by omega)))
  have hq : (span + Tau) / T ≤ 9223372036854775806 := by
    have : (span + Tau) / T ≤ span + Tau := Nat.div_le_self _ _
    omega
  have hn5 : n5 ≤ 2 := by
    have := HN5.out.dig.len_le (k := 2) (by omega)
    rw [HN5.out.own.len] at this; exact this
  have HV : Hid (withV T Tau span = (span + Tau) / T + 1) := Lib.hid rfl
  generalize (span + Tau) / T = q at *
  clear ha1 hb1 ha2 hb2 ha3 hb3 ha4 hb4 ha5 hb5 es eu et
  go_wp2_with fail
  refine (word_any _ 1 (by omega)).mono ?_
  rintro e w6 ⟨A7, n7, c7, xs7, rfl, hh7, hl7, hb7⟩
  have HN7 := Lib.hid hh7
  have HB7 := Lib.hid hb7
  have hz7 := hb7.size
  clear hh7 hb7
  go_wp2_with fail
  refine (plus_any _ _ _ _ _ _ _ _ _ q 1 (HN5.out.below HB7.out) HN7.out (by omega) (by omega)).mono ?_
  rintro e w7 ⟨A8, n8, c8, xs8, rfl, hh8, hl8, hb8⟩
  have HN8 := Lib.hid hh8
  have HB8 := Lib.hid (HBW.out.trans ((HB7.out.mono HBW.out.size).trans (hb8.mono (by have := HBW.out.size; omega))))
  have hn8 : n8 ≤ 2 := by
    have := hh8.dig.len_le (k := 2) (by omega)
    rw [hh8.own.len] at this; exact this
  clear hh8 hb8
  go_wp2_with fail
  refine (fits_small _ 0 _ _ _ _ (q + 1) HN8.out.own HN8.out.dig.1 hn8).mono ?_
  rintro e w8 ⟨rfl, rfl⟩
  go_wp2
  go_ret
  exact ⟨ret_int (by rw [HV.out]; omega), HB8.out⟩

/-- What the document's Within and Real answer. -/
def dwithV (T Tau span : Int) : Value := if checkV T Tau ≠ 0 ∨ isTick span = false then .tuple #[.int .i64 0, .int .i64 1] else .tuple #[.int .i64 (withV T.toNat Tau.toNat span.toNat : Int), .int .i64 0]
def drealV (T Tau hz : Int) : Value := if checkV T Tau ≠ 0 ∨ hz < 1 ∨ 1000000000 < hz then .tuple #[.float .f64 0, .int .i64 1] else .tuple #[.float .f64 (ratioB hz T), .int .i64 0]

theorem checkV_zero {T Tau : Int} (h : checkV T Tau = 0) : 1 ≤ T ∧ T ≤ 4611686018427387903 ∧ 0 ≤ Tau ∧ Tau ≤ 4611686018427387903 := by
  unfold checkV at h
  split at h
  · rename_i h'
    have h2 := isTick_iff.1 h'.2.1
    have h3 := isTick_iff.1 h'.2.2
    omega
  · omega
theorem checkV_cases (T Tau : Int) : checkV T Tau = 0 ∨ checkV T Tau = 1 := by unfold checkV; split <;> simp

set_option maxRecDepth 100000 in
set_option maxHeartbeats 1600000 in
theorem dwithin4_any (w : World) (T Tau span : Int) :
    Calls Tryd.prog 48 #[.agg #[.int .i64 T, .int .i64 Tau], .int .i64 span] w (ValEnd w (dwithV T Tau span)) := by
  have HK := Lib.hid (fun w => check4_any w T Tau)
  have HF := Lib.hid (fun w => rform_any w span)
  rcases checkV_cases T Tau with hc | hc
  · rcases hs : isTick span with _ | _
    · have HV : Hid (dwithV T Tau span = .tuple #[.int .i64 0, .int .i64 1]) := Lib.hid (by unfold dwithV; rw [if_pos (.inr hs)])
      rw [hc] at HK
      rw [hs] at HF
      clear hc hs
      go_enter Tryd.func48, Tryd.ntmps48
      go_wp2_with fail
      refine (HK.out _).mono ?_
      rintro e w1 ⟨rfl, hb1⟩
      have HB1 := Lib.hid hb1
      clear hb1
      go_wp2_with fail
      refine (HF.out _).mono ?_
      rintro e w2 ⟨rfl, rfl⟩
      go_wp2
      go_ret2
      exact ⟨by rw [HV.out]; rfl, ((Below.refl _ _).alloc (Nat.le_refl _) _).trans (HB1.out.mono (by simp))⟩
    · have hb := checkV_zero hc
      have ht := isTick_iff.1 hs
      obtain ⟨t, rfl⟩ : ∃ t : Nat, T = (t : Int) := ⟨T.natAbs, by omega⟩
      obtain ⟨u, rfl⟩ : ∃ u : Nat, Tau = (u : Int) := ⟨Tau.natAbs, by omega⟩
      obtain ⟨s, rfl⟩ : ∃ s : Nat, span = (s : Int) := ⟨span.natAbs, by omega⟩
      have HV : Hid (dwithV t u s = .tuple #[.int .i64 (withV t u s : Int), .int .i64 0]) := Lib.hid (by unfold dwithV; rw [if_neg (by rw [hc, hs]; simp)]; rfl)
      have HW := Lib.hid (fun w => within4_any w t u s (by omega) (by omega) (by omega) (by omega))
      rw [hc] at HK
      rw [hs] at HF
      clear hc hs
      go_enter Tryd.func48, Tryd.ntmps48
      go_wp2_with fail
      refine (HK.out _).mono ?_
      rintro e w1 ⟨rfl, hb1⟩
      have hz1 : w.heap.size + 1 ≤ w1.heap.size := by have := hb1.size; simpa using this
      have ha1 : w1.cell? ⟨w.heap.size, 0, none⟩ = some (.int .i64 (t : Int)) := by rw [hb1.cell (by simp)]; simp
      have ha2 : w1.cell? ⟨w.heap.size, 1, none⟩ = some (.int .i64 (u : Int)) := by rw [hb1.cell (by simp)]; simp
      have HB1 := Lib.hid hb1
      clear hb1
      go_wp2_with fail
      refine (HF.out _).mono ?_
      rintro e w2 ⟨rfl, rfl⟩
      go_wp2_with fail
      refine (HW.out _).mono ?_
      rintro e w2 ⟨rfl, hb2⟩
      have HB2 := Lib.hid hb2
      clear hb2
      go_wp2
      go_ret2
      exact ⟨by rw [HV.out]; rfl, (((Below.refl _ _).alloc (Nat.le_refl _) _).trans (HB1.out.mono (by simp))).trans (HB2.out.mono (by omega))⟩
  · have HV : Hid (dwithV T Tau span = .tuple #[.int .i64 0, .int .i64 1]) := Lib.hid (by unfold dwithV; rw [if_pos (.inl (by rw [hc]; omega))])
    rw [hc] at HK
    clear hc
    go_enter Tryd.func48, Tryd.ntmps48
    go_wp2_with fail
    refine (HK.out _).mono ?_
    rintro e w1 ⟨rfl, hb1⟩
    have HB1 := Lib.hid hb1
    clear hb1
    go_wp2
    go_ret2
    exact ⟨by rw [HV.out]; rfl, ((Below.refl _ _).alloc (Nat.le_refl _) _).trans (HB1.out.mono (by simp))⟩

set_option maxRecDepth 100000 in
set_option maxHeartbeats 1600000 in
theorem dreal4_any (w : World) (T Tau hz : Int) (hT : T ≤ 9223372036854775807) (h1 : -9223372036854775808 ≤ hz) (h2 : hz ≤ 9223372036854775807) :
    Calls Tryd.prog 46 #[.agg #[.int .i64 T, .int .i64 Tau], .int .i64 hz] w (ValEnd w (drealV T Tau hz)) := by
  have HK := Lib.hid (fun w => check4_any w T Tau)
  rcases checkV_cases T Tau with hc | hc
  · by_cases hz1 : hz < 1
    · have HV : Hid (drealV T Tau hz = .tuple #[.float .f64 0, .int .i64 1]) := Lib.hid (by unfold drealV; rw [if_pos (.inr (.inl hz1))])
      rw [hc] at HK
      clear hc
      go_enter Tryd.func46, Tryd.ntmps46
      go_wp2_with fail
      refine (HK.out _).mono ?_
      rintro e w1 ⟨rfl, hb1⟩
      have HB1 := Lib.hid hb1
      clear hb1
      go_wp2
      go_ret2
      exact ⟨by rw [HV.out]; rfl, ((Below.refl _ _).alloc (Nat.le_refl _) _).trans (HB1.out.mono (by simp))⟩
    · by_cases hz2 : 1000000000 < hz
      · have HV : Hid (drealV T Tau hz = .tuple #[.float .f64 0, .int .i64 1]) := Lib.hid (by unfold drealV; rw [if_pos (.inr (.inr hz2))])
        rw [hc] at HK
        clear hc
        go_enter Tryd.func46, Tryd.ntmps46
        go_wp2_with fail
        refine (HK.out _).mono ?_
        rintro e w1 ⟨rfl, hb1⟩
        have HB1 := Lib.hid hb1
        clear hb1
        go_wp2
        go_ret2
        exact ⟨by rw [HV.out]; rfl, ((Below.refl _ _).alloc (Nat.le_refl _) _).trans (HB1.out.mono (by simp))⟩
      · have hb := checkV_zero hc
        have HV : Hid (drealV T Tau hz = .tuple #[.float .f64 (ratioB hz T), .int .i64 0]) := Lib.hid (by unfold drealV; rw [if_neg (by rw [hc]; omega)])
        have HR := Lib.hid (fun w => ratio3_any w hz T h1 h2 (by omega) hT (by omega))
        rw [hc] at HK
        clear hc
        go_enter Tryd.func46, Tryd.ntmps46
        go_wp2_with fail
        refine (HK.out _).mono ?_
        rintro e w1 ⟨rfl, hb1⟩
        have hz1 : w.heap.size + 1 ≤ w1.heap.size := by have := hb1.size; simpa using this
        have ha1 : w1.cell? ⟨w.heap.size, 0, none⟩ = some (.int .i64 T) := by rw [hb1.cell (by simp)]; simp
        have HB1 := Lib.hid hb1
        clear hb1
        go_wp2_with fail
        refine (HR.out _).mono ?_
        rintro e w2 ⟨rfl, hb2⟩
        have HB2 := Lib.hid hb2
        clear hb2
        go_wp2
        go_ret2
        exact ⟨by rw [HV.out]; rfl, (((Below.refl _ _).alloc (Nat.le_refl _) _).trans (HB1.out.mono (by simp))).trans (HB2.out.mono (by omega))⟩
  · have HV : Hid (drealV T Tau hz = .tuple #[.float .f64 0, .int .i64 1]) := Lib.hid (by unfold drealV; rw [if_pos (.inl (by rw [hc]; omega))])
    rw [hc] at HK
    clear hc
    go_enter Tryd.func46, Tryd.ntmps46
    go_wp2_with fail
    refine (HK.out _).mono ?_
    rintro e w1 ⟨rfl, hb1⟩
    have HB1 := Lib.hid hb1
    clear hb1
    go_wp2
    go_ret2
    exact ⟨by rw [HV.out]; rfl, ((Below.refl _ _).alloc (Nat.le_refl _) _).trans (HB1.out.mono (by simp))⟩
end Go.Proofs.YtafboimlchjnaaaDoor
