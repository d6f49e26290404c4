/- Contract: the document's Quantile, of any list and share. -/
import Derived.Test.YtffibfnagoagcaaQtD
import Derived.BigQuiet
import Derived.BigRegion
namespace Go.Proofs.Ytffibfnagoagcaa
open Go.RowKit
set_option maxRecDepth 100000
set_option linter.unusedVariables false

theorem same3_q (w : World) (a b : Nat) (ha : a ≤ 18446744073709551615) (hb : b ≤ 18446744073709551615) (t : Nat) :
    Calls Try.prog 19 #[.float .f64 a, .float .f64 b] (w.drewN t) fun e w' => e = .returned (.bool (sameB a b)) ∧ w' = w.drewN t :=
  (same3_any (w.drewN t) a b ha hb).mono fun _ _ ⟨g1, g2⟩ => ⟨g1, g2.symm⟩
theorem ord_int {j P n : Nat} (hj : j < 9007199254740992) (h : PlP P n) : FloatKind.f64.format.order (floatOfInt FloatKind.f64 (j : Int)) P = some (compare ((j * 2 ^ cE : Nat) : Int) (WS (szB P) : Int)) := by
  have hw := wh_int (z := (j : Int)) (by omega)
  have := ordF_fin hw.le h.le hw.fin h.fin
  rw [hw.val, h.val] at this
  have e : (((j * 2 ^ cE : Nat) : Int)) = (j : Int) * ((2 ^ cE : Nat) : Int) := by push_cast; rfl
  rw [e]
  exact this
theorem fi_le {j P : Nat} : j * 2 ^ cE ≤ WS (szB P) ↔ j ≤ fiB P := by
  unfold fiB
  exact (Nat.le_div_iff_mul_le cE_pos).symm
set_option maxHeartbeats 3200000 in
theorem quantD_any (w : World) (A : Option Addr) (n c : Nat) (xs : List Nat) (q : Nat) (h : ArgF w w.heap.size A n c xs) (hq : q ≤ 18446744073709551615) :
    Calls Try.prog 30 #[.slice A n c, .float .f64 q] w (FE w (quaE xs q).1 (quaE xs q).2) := by
  have hlen := h.len
  have hcap := h.cap
  have hle := h.le
  unfold maxLen at hcap
  by_cases h1 : 4096 < n
  · have d1 : decide ((4096 : Int) < (n : Int)) = true := by simp; omega
    rw [quaE_long (by rw [hlen]; exact h1)]
    go_enter Try.func30, Try.ntmps30
    go_wp2
    go_ret2
    exact ⟨0, rfl, by omega, can0, Below.refl _ _⟩
  · have d1 : decide ((4096 : Int) < (n : Int)) = false := by simp; omega
    have NQ := Lib.hid (nan8_any w q hq)
    have H1 := Lib.hid (show ¬ 4096 < xs.length by rw [hlen]; exact h1)
    obtain ⟨nb, nq⟩ : ∃ nb, nanB q = nb := ⟨_, rfl⟩
    rw [nq] at NQ
    have HQN := Lib.hid nq
    have HA := Lib.hid h
    have HL := Lib.hid hlen
    have HHQ := Lib.hid hq
    have hmem : ∀ j, j < n → xs.getD j 0 ∈ xs := fun j hj => by rw [List.getD_eq_getElem?_getD, List.getElem?_eq_getElem (by rw [hlen]; exact hj)]; exact List.getElem_mem _
    have HMEM := Lib.hid hmem
    obtain ⟨Z, hZ⟩ : ∃ Z, quaE xs q = Z := ⟨_, rfl⟩
    rw [hZ]
    have HZ := Lib.hid hZ
    clear h hlen hq nq hmem hZ
    go_enter Try.func30, Try.ntmps30
    go_wp2_with fail
    with_reducible refine NQ.out.mono ?_
    rintro e w1 ⟨rfl, rfl⟩
    go_wp2_with fail
    go_loopw [6, 22] (fun bv iv wr => ∃ (i : Nat) (b : Bool), i ≤ n ∧ iv = .int .i64 (i : Int) ∧ bv = .bool b ∧ b = (nb || (xs.take i).any nanB) ∧ wr = w) (fun _ iv _ => n - (intOf iv).toNat)
    case atStart => exact ⟨0, nb, Nat.zero_le _, rfl, rfl, by simp, rfl⟩
    case round =>
      obtain ⟨i, b, hi, rfl, rfl, hbv, rfl⟩ := hrel
      have HBV := Lib.hid hbv
      clear hbv
      rcases Nat.lt_or_ge i n with h2 | h2
      · obtain ⟨bb, off, rfl, hB, hcell⟩ := HA.out.at_ (by omega)
        have e0 := hcell i h2
        have hx := HA.out.fit _ (HMEM.out i h2)
        have hil : i < xs.length := by rw [HL.out]; exact h2
        have hs := any_take hil
        have HS := Lib.hid hs
        have HN := Lib.hid (nan8_any wr (xs.getD i 0) hx)
        have ij : (i : Int) < (n : Int) := by omega
        have i0 : (0 : Int) ≤ (i : Int) := by omega
        clear hcell hs
        generalize xs.getD i 0 = x at *
        cases b with
        | true =>
          have HR : Hid (true = (nb || (xs.take (i + 1)).any nanB)) := Lib.hid (by rw [HS.out, ← Bool.or_assoc, ← HBV.out]; rfl)
          go_wp2
          go_roundw
          case rel => exact ⟨i + 1, true, by omega, by push_cast; rfl, rfl, HR.out, by first | rfl | trivial⟩
          case measure => simp [intOf] <;> omega
        | false =>
          have HR : Hid (nanB x = (nb || (xs.take (i + 1)).any nanB)) := Lib.hid (by rw [HS.out, ← Bool.or_assoc, ← HBV.out]; rfl)
          go_wp2_with fail
          with_reducible refine HN.out.mono ?_
          rintro e w2 ⟨rfl, rfl⟩
          go_wp2
          go_roundw
          case rel => exact ⟨i + 1, nanB x, by omega, by push_cast; rfl, rfl, HR.out, by first | rfl | trivial⟩
          case measure => simp [intOf] <;> omega
      · obtain rfl : i = n := by omega
        have j1 : ¬ (i : Int) < (i : Int) := by omega
        have hbv := HBV.out
        rw [List.take_of_length_le (by rw [HL.out]; exact Nat.le_refl _)] at hbv
        rw [← HQN.out] at hbv
        clear HBV
        cases b with
        | true =>
          obtain rfl : Z = (0, 4) := HZ.out.symm.trans (quaE_nan H1.out hbv.symm)
          clear hbv
          go_wp2
          go_ret2
          exact ⟨0, rfl, by omega, can0, Below.refl _ _⟩
        | false =>
          have HNN := Lib.hid hbv.symm
          have na : xs.any nanB = false := ((Bool.or_eq_false_iff).1 hbv.symm).2
          have nq : nanB q = false := ((Bool.or_eq_false_iff).1 hbv.symm).1
          have HNX : Hid (∀ x ∈ xs, nanB x = false) := Lib.hid (fun x hx => by
            rcases hb : nanB x with _ | _
            · rfl
            · have := List.any_eq_true.2 ⟨x, hx, hb⟩
              rw [na] at this; cases this)
          have HQ2 := Lib.hid nq
          have hq := HHQ.out
          clear hbv na
          rename World => w
          rcases ord_nought hq nq with ⟨a1, a2, a3⟩ | ⟨a1, a2, a3⟩ | ⟨a1, a2, a3⟩
          · have o1 : FloatKind.f64.format.order q 0 = some .eq := a3
            have o2 : FloatKind.f64.format.order q 4607182418800017408 = some .lt := by
              have hs : szB q = 0 := by
                unfold lt0B at a2
                unfold le0B at a1
                rcases hz : decide (szB q = 0) with _ | _
                · rw [hz] at a1 a2; simp at a1 a2; rw [a1] at a2; cases a2
                · exact of_decide_eq_true hz
              have := ordF_fin hq (show 4607182418800017408 ≤ 18446744073709551615 by omega) (show szB q < _ by omega) (show szB 4607182418800017408 < 9218868437227405312 by decide)
              have v1 : VB 4607182418800017408 = ((2 ^ cE : Nat) : Int) := by
                have h2 : VB 4607182418800017408 = (WS (szB 4607182418800017408) : Int) := VB_pos (by decide)
                rw [h2, show szB 4607182418800017408 = 4607182418800017408 by decide, one_S]
              have v0 : VB q = 0 := by unfold VB; rw [hs, WS_zero]; split <;> rfl
              rw [v0, v1, order_lt_iff.2 (by have := cE_pos; omega)] at this
              exact this
            have HG := Lib.hid (show (lt0B q || gt1B q) = false by rw [a2]; unfold gt1B; rw [a1]; rfl)
            clear a1 a2 a3 hq nq
            rcases Nat.eq_zero_or_pos i with h0 | h0
            · have d2 : ((i : Int) == 0) = true := by rw [h0]; rfl
              obtain rfl : Z = (0, 7) := HZ.out.symm.trans (quaE_none H1.out HNN.out HG.out (by rw [HL.out]; exact h0))
              clear h0
              go_wp2
              go_ret2
              exact ⟨0, rfl, by omega, can0, Below.refl _ _⟩
            · have d2 : ((i : Int) == 0) = false := beq_eq_false_iff_ne.2 (by omega)
              have hz := HZ.out.symm.trans (quaE_ok H1.out HNN.out HG.out (by rw [HL.out]; omega))
              obtain ⟨P, hm, hpl, hqp⟩ := qua_pl (xs := xs) HHQ.out HQ2.out HG.out (by rw [HL.out]; omega) (by rw [HL.out]; omega)
              rw [hqp, HL.out] at hz
              rw [HL.out] at hm hpl
              obtain ⟨l, hl⟩ : ∃ l, i - 1 = l := ⟨_, rfl⟩
              rw [hl] at hm
              have s1 : (i : Int) - 1 = (l : Int) := by omega
              have HLN := Lib.hid (show i = l + 1 by omega)
              obtain ⟨I, hI⟩ : ∃ I, floatOfInt FloatKind.f64 ((l : Nat) : Int) = I := ⟨_, rfl⟩
              rw [hI] at hm
              have F2 := fun w => run_float_arith (P := Try.prog) w .mul 27 .f64 q I P hm
              have HPL := Lib.hid hpl
              have HSO := Lib.hid (sorted_any w A i c xs HA.out (by omega))
              have HNXX := Lib.hid (fun x hx => And.intro (HA.out.fit x hx) (HNX.out x hx))
              clear hm hpl hqp hl
              go_wp2_with fail
              with_reducible refine HSO.out.mono ?_
              rintro e wy ⟨A', c', ys, rfl, ho, hp, hs, hb⟩
              have hys := srtV_eq hp hs HNXX.out
              rw [← hys] at hz
              subst hz
              have hly : ys.length = i := by have := hp.length_eq; rw [this]; exact HL.out
              have hfy : ∀ x ∈ ys, x ≤ 18446744073709551615 := fun x hx => HA.out.fit x (hp.mem_iff.1 hx)
              obtain ⟨by0, oy, rfl, hb1, hyl, hcy, _⟩ := ho.cell (by omega)
              have HCL : Hid (∀ j, j < i → wy.cell? ⟨by0, oy + j, none⟩ = some (.float .f64 (ys.getD j 0))) := Lib.hid (fun j hj => by
                refine hcy j _ ?_
                unfold Fl
                rw [List.getElem?_map, List.getD_eq_getElem?_getD, List.getElem?_eq_getElem (by omega)]; rfl)
              have HMY : Hid (∀ j, j < i → ys.getD j 0 ∈ ys) := Lib.hid (fun j hj => by rw [List.getD_eq_getElem?_getD, List.getElem?_eq_getElem (by omega)]; exact List.getElem_mem _)
              have HFT := Lib.hid hfy
              have HNY : Hid (∀ x ∈ ys, nanB x = false) := Lib.hid (fun x hx => HNX.out x (hp.mem_iff.1 hx))
              have HSY := Lib.hid hs
              have HLY := Lib.hid hly
              have HBL := Lib.hid hb
              have hlt := HPL.out.lt
              obtain ⟨f, hf, f1, f2, fo⟩ := HPL.out.frac (by omega)
              have HF := Lib.hid hf
              have HF2 := Lib.hid f2
              have HFO := Lib.hid fo
              obtain ⟨F, hF⟩ : ∃ F, fiB P = F := ⟨_, rfl⟩
              obtain ⟨IF, hIF⟩ : ∃ IF, floatOfInt FloatKind.f64 ((F : Nat) : Int) = IF := ⟨_, rfl⟩
              rw [hF] at hf hlt
              rw [hIF] at hf
              have F4 := fun w => run_float_arith (P := Try.prog) w .sub 27 .f64 P IF f hf
              have HFF := Lib.hid hF
              have HIF := Lib.hid hIF
              have HFN := Lib.hid hlt
              clear ho hp hs hb hys hly hfy hcy hb1 hf hF f2 fo hlt HSO HNXX
              go_wp2_with fail
              go_loopw [12] (fun iv wr => ∃ (j : Nat), j ≤ F ∧ iv = .int .i64 (j : Int) ∧ wr = wy) (fun iv _ => F - (intOf iv).toNat)
              case atStart => exact ⟨0, Nat.zero_le _, rfl, rfl⟩
              case round =>
                obtain ⟨j, hj, rfl, rfl⟩ := hrel
                rename World => wy
                have hFl := HFN.out
                have hLl := HLN.out
                have z0 : (0 : Int) ≤ (j : Int) := by omega
                have zn : (j : Int) < (i : Int) := by omega
                rcases Nat.lt_or_ge j l with hjl | hjl
                · have dl : decide ((j : Int) < (l : Int)) = true := by simp; omega
                  have oo := ord_int (j := j + 1) (by omega) HPL.out
                  have hcv : ((j : Int) + 1) = ((j + 1 : Nat) : Int) := by push_cast; rfl
                  have fl := fi_le (j := j + 1) (P := P)
                  rw [HFF.out] at fl
                  obtain ⟨J, hJ⟩ : ∃ J, floatOfInt FloatKind.f64 ((j : Int) + 1) = J := ⟨_, rfl⟩
                  rw [← hcv, hJ] at oo
                  have HFL := Lib.hid fl
                  clear fl hcv
                  rcases (by omega : (((j + 1) * 2 ^ cE : Nat) : Int) < (WS (szB P) : Int) ∨ (((j + 1) * 2 ^ cE : Nat) : Int) = (WS (szB P) : Int) ∨ (WS (szB P) : Int) < (((j + 1) * 2 ^ cE : Nat) : Int)) with g | g | g
                  · rw [order_lt_iff.2 g] at oo
                    have hj2 : j + 1 ≤ F := HFL.out.1 (by omega)
                    clear g
                    go_wp2
                    go_roundw
                    case rel => exact ⟨j + 1, hj2, by push_cast; rfl, by first | rfl | trivial⟩
                    case measure => first | done | (simp [intOf] <;> omega)
                  · rw [order_eq_iff.2 g] at oo
                    have hj2 : j + 1 ≤ F := HFL.out.1 (by omega)
                    clear g
                    go_wp2
                    go_roundw
                    case rel => exact ⟨j + 1, hj2, by push_cast; rfl, by first | rfl | trivial⟩
                    case measure => first | done | (simp [intOf] <;> omega)
                  · rw [order_gt_iff.2 g] at oo
                    have hj2 : ¬ j + 1 ≤ F := fun hh => by have := HFL.out.2 hh; omega
                    have hjF : j = F := by omega
                    clear g HFL hj2
                    subst hjF
                    have hIF2 := HIF.out
                    have q0' := HCL.out j HFN.out
                    by_cases h0 : szB f = 0
                    · have F3 := ord_z f1 h0
                      have HE := Lib.hid (betV_lo (xs := ys) (n := i) HF.out (.inl (by exact h0)))
                      rw [HFF.out] at HE
                      have lo1 := HFT.out _ (HMY.out j HFN.out)
                      generalize ys.getD j 0 = lo at *
                      clear h0
                      go_upto_region 22 with (fail)
                      go_quiet (fail)
                      have HBQ := Lib.hid (below_drewN HBL.out nq)
                      have q1' : (wy.drewN nq).cell? ⟨by0, oy + j, none⟩ = some (.float .f64 lo) := q0'
                      generalize wy.drewN nq = wz at *
                      clear q0'
                      go_wp2
                      go_ret2
                      exact ⟨lo, rfl, lo1, HE.out.symm, HBQ.out⟩
                    · have F3 := HPL.out.gt HFO.out h0
                      rcases Nat.lt_or_ge (j + 1) i with h2 | h2
                      · have q1' := HCL.out (j + 1) h2
                        have lo1 := HFT.out _ (HMY.out j HFN.out)
                        have hi1 := HFT.out _ (HMY.out (j + 1) h2)
                        have nlo := HNY.out _ (HMY.out j HFN.out)
                        have nhi := HNY.out _ (HMY.out (j + 1) h2)
                        have hle2 := srt_iff.1 HSY.out j (j + 1) (by omega) (by rw [HLY.out]; exact h2)
                        have dF : ((j : Int) == (l : Int)) = false := beq_eq_false_iff_ne.2 (by have := HLN.out; omega)
                        have k2 : (j : Int) + 1 < (i : Int) := by omega
                        have k3 : (0 : Int) ≤ (j : Int) + 1 := by omega
                        have HB1 : Hid (∀ d m, floatBits .sub .f64 (ys.getD (j + 1) 0) (ys.getD j 0) = some d → floatBits .mul .f64 f d = some m → sameB (ys.getD j 0) (ys.getD (j + 1) 0) = false → betV ys i P = fop .add (canB (ys.getD j 0)) (canB m)) := Lib.hid (fun d m e1 e2 e3 => by
                          have hff := HFF.out
                          have := betV_up (xs := ys) (n := i) (d := d) (m := m) HF.out (by rw [hff]; exact e1) e2 (by rw [hff, e3]; simp; exact ⟨h0, by omega⟩)
                          rwa [hff] at this)
                        have HB2 : Hid (sameB (ys.getD j 0) (ys.getD (j + 1) 0) = true → betV ys i P = canB (ys.getD j 0)) := Lib.hid (fun e3 => by
                          have hff := HFF.out
                          have := betV_lo (xs := ys) (n := i) HF.out (.inr (.inr (by rw [hff]; exact e3)))
                          rwa [hff] at this)
                        generalize ys.getD j 0 = lo at *
                        generalize ys.getD (j + 1) 0 = hi at *
                        have HSM := Lib.hid (fun t => same3_q wy lo hi lo1 hi1 t)
                        have f3 : szB f < 9218868437227405312 := by have := HFO.out.szi; have := HF2.out; omega
                        cases hsm : sameB lo hi with
                        | true =>
                          have HE := Lib.hid (HB2.out hsm)
                          rw [hsm] at HSM
                          clear h0 hle2 nlo nhi HB1 HB2 hsm
                          go_upto_region 22 with (fail)
                          go_quiet (first | (go_at_call 19; with_reducible exact Calls.quiet_of_same (HSM.out _)))
                          have HBQ := Lib.hid (below_drewN HBL.out nq)
                          have q2' : (wy.drewN nq).cell? ⟨by0, oy + j, none⟩ = some (.float .f64 lo) := q0'
                          generalize wy.drewN nq = wz at *
                          clear q0' q1' HSM
                          go_wp2
                          go_ret2
                          exact ⟨lo, rfl, lo1, HE.out.symm, HBQ.out⟩
                        | false =>
                          have hlt2 : idxB lo < idxB hi := by
                            unfold sameB at hsm
                            have := beq_eq_false_iff_ne.1 hsm
                            omega
                          obtain ⟨d, hd, d2, d3⟩ := sub_ord hi1 lo1 nhi nlo hlt2
                          obtain ⟨m, hm, m2⟩ := mul_some f1 d2 f3 h0 d3
                          have HE := Lib.hid (HB1.out d m hd hm hsm)
                          have F5 := fun w => run_float_arith (P := Try.prog) w .sub 27 .f64 hi lo d hd
                          have F6 := fun w => run_float_arith (P := Try.prog) w .mul 27 .f64 f d m hm
                          rw [hsm] at HSM
                          clear h0 hle2 nlo nhi HB1 HB2 hsm hlt2 hd hm
                          go_upto_region 22 with (fail)
                          go_quiet (first | (go_at_call 19; with_reducible exact Calls.quiet_of_same (HSM.out _)))
                          have HBQ := Lib.hid (below_drewN HBL.out nq)
                          have q2' : (wy.drewN nq).cell? ⟨by0, oy + j, none⟩ = some (.float .f64 lo) := q0'
                          have q3' : (wy.drewN nq).cell? ⟨by0, oy + (j + 1), none⟩ = some (.float .f64 hi) := q1'
                          have ly' : by0 < (wy.drewN nq).heap.size := hyl
                          generalize wy.drewN nq = wz at *
                          clear q0' q1' HSM hyl
                          go_upto_region 24 with (fail)
                          go_quiet (fail)
                          have HBQ2 := Lib.hid (below_drewN HBQ.out nq)
                          have q4' : (wz.drewN nq).cell? ⟨by0, oy + j, none⟩ = some (.float .f64 lo) := q2'
                          generalize wz.drewN nq = wv at *
                          clear q2' q3'
                          go_wp2_with (refine upon_float rfl ?_; intro v k lv cv)
                          go_wp2
                          go_ret2
                          exact ⟨v, rfl, lv, cv.out.trans HE.out.symm, below_drewN HBQ2.out k⟩
                      · have dF : ((j : Int) == (l : Int)) = true := by rw [beq_iff_eq]; have := HLN.out; have := HFN.out; omega
                        have HE := Lib.hid (betV_lo (xs := ys) (n := i) HF.out (.inr (.inl (by rw [HFF.out]; have := HFN.out; omega))))
                        rw [HFF.out] at HE
                        have lo1 := HFT.out _ (HMY.out j HFN.out)
                        generalize ys.getD j 0 = lo at *
                        clear h0
                        go_upto_region 22 with (fail)
                        go_quiet (fail)
                        have HBQ := Lib.hid (below_drewN HBL.out nq)
                        have q1' : (wy.drewN nq).cell? ⟨by0, oy + j, none⟩ = some (.float .f64 lo) := q0'
                        generalize wy.drewN nq = wz at *
                        clear q0'
                        go_wp2
                        go_ret2
                        exact ⟨lo, rfl, lo1, HE.out.symm, HBQ.out⟩
                · have dl : decide ((j : Int) < (l : Int)) = false := by simp; omega
                  have hjF : j = F := by omega
                  subst hjF
                  have hIF2 := HIF.out
                  have q0' := HCL.out j HFN.out
                  by_cases h0 : szB f = 0
                  · have F3 := ord_z f1 h0
                    have HE := Lib.hid (betV_lo (xs := ys) (n := i) HF.out (.inl (by exact h0)))
                    rw [HFF.out] at HE
                    have lo1 := HFT.out _ (HMY.out j HFN.out)
                    generalize ys.getD j 0 = lo at *
                    clear h0
                    go_upto_region 22 with (fail)
                    go_quiet (fail)
                    have HBQ := Lib.hid (below_drewN HBL.out nq)
                    have q1' : (wy.drewN nq).cell? ⟨by0, oy + j, none⟩ = some (.float .f64 lo) := q0'
                    generalize wy.drewN nq = wz at *
                    clear q0'
                    go_wp2
                    go_ret2
                    exact ⟨lo, rfl, lo1, HE.out.symm, HBQ.out⟩
                  · have F3 := HPL.out.gt HFO.out h0
                    rcases Nat.lt_or_ge (j + 1) i with h2 | h2
                    · exfalso; have := HLN.out; omega
                    · have dF : ((j : Int) == (l : Int)) = true := by rw [beq_iff_eq]; have := HLN.out; have := HFN.out; omega
                      have HE := Lib.hid (betV_lo (xs := ys) (n := i) HF.out (.inr (.inl (by rw [HFF.out]; have := HFN.out; omega))))
                      rw [HFF.out] at HE
                      have lo1 := HFT.out _ (HMY.out j HFN.out)
                      generalize ys.getD j 0 = lo at *
                      clear h0
                      go_upto_region 22 with (fail)
                      go_quiet (fail)
                      have HBQ := Lib.hid (below_drewN HBL.out nq)
                      have q1' : (wy.drewN nq).cell? ⟨by0, oy + j, none⟩ = some (.float .f64 lo) := q0'
                      generalize wy.drewN nq = wz at *
                      clear q0'
                      go_wp2
                      go_ret2
                      exact ⟨lo, rfl, lo1, HE.out.symm, HBQ.out⟩
          · have o1 : FloatKind.f64.format.order q 0 = some .lt := a3
            obtain rfl : Z = (0, 5) := HZ.out.symm.trans (quaE_range H1.out HNN.out (by rw [a2]; rfl))
            clear a1 a2 a3 hq nq
            go_wp2
            go_ret2
            exact ⟨0, rfl, by omega, can0, Below.refl _ _⟩
          · have o1 : FloatKind.f64.format.order q 0 = some .gt := a3
            rcases ord_one hq nq a1 with ⟨b1, o2⟩ | ⟨b1, o2⟩ | ⟨b1, o2⟩
            · obtain rfl : Z = (0, 5) := HZ.out.symm.trans (quaE_range H1.out HNN.out (by unfold gt1B; rw [a1, decide_eq_true b1]; simp))
              clear a1 a2 a3 b1 hq nq
              go_wp2
              go_ret2
              exact ⟨0, rfl, by omega, can0, Below.refl _ _⟩
            · have HG := Lib.hid (show (lt0B q || gt1B q) = false by rw [a2]; unfold gt1B; rw [decide_eq_false (show ¬ 4607182418800017408 < q by omega)]; simp)
              clear a1 a2 a3 b1 hq nq
              rcases Nat.eq_zero_or_pos i with h0 | h0
              · have d2 : ((i : Int) == 0) = true := by rw [h0]; rfl
                obtain rfl : Z = (0, 7) := HZ.out.symm.trans (quaE_none H1.out HNN.out HG.out (by rw [HL.out]; exact h0))
                clear h0
                go_wp2
                go_ret2
                exact ⟨0, rfl, by omega, can0, Below.refl _ _⟩
              · have d2 : ((i : Int) == 0) = false := beq_eq_false_iff_ne.2 (by omega)
                have hz := HZ.out.symm.trans (quaE_ok H1.out HNN.out HG.out (by rw [HL.out]; omega))
                obtain ⟨P, hm, hpl, hqp⟩ := qua_pl (xs := xs) HHQ.out HQ2.out HG.out (by rw [HL.out]; omega) (by rw [HL.out]; omega)
                rw [hqp, HL.out] at hz
                rw [HL.out] at hm hpl
                obtain ⟨l, hl⟩ : ∃ l, i - 1 = l := ⟨_, rfl⟩
                rw [hl] at hm
                have s1 : (i : Int) - 1 = (l : Int) := by omega
                have HLN := Lib.hid (show i = l + 1 by omega)
                obtain ⟨I, hI⟩ : ∃ I, floatOfInt FloatKind.f64 ((l : Nat) : Int) = I := ⟨_, rfl⟩
                rw [hI] at hm
                have F2 := fun w => run_float_arith (P := Try.prog) w .mul 27 .f64 q I P hm
                have HPL := Lib.hid hpl
                have HSO := Lib.hid (sorted_any w A i c xs HA.out (by omega))
                have HNXX := Lib.hid (fun x hx => And.intro (HA.out.fit x hx) (HNX.out x hx))
                clear hm hpl hqp hl
                go_wp2_with fail
                with_reducible refine HSO.out.mono ?_
                rintro e wy ⟨A', c', ys, rfl, ho, hp, hs, hb⟩
                have hys := srtV_eq hp hs HNXX.out
                rw [← hys] at hz
                subst hz
                have hly : ys.length = i := by have := hp.length_eq; rw [this]; exact HL.out
                have hfy : ∀ x ∈ ys, x ≤ 18446744073709551615 := fun x hx => HA.out.fit x (hp.mem_iff.1 hx)
                obtain ⟨by0, oy, rfl, hb1, hyl, hcy, _⟩ := ho.cell (by omega)
                have HCL : Hid (∀ j, j < i → wy.cell? ⟨by0, oy + j, none⟩ = some (.float .f64 (ys.getD j 0))) := Lib.hid (fun j hj => by
                  refine hcy j _ ?_
                  unfold Fl
                  rw [List.getElem?_map, List.getD_eq_getElem?_getD, List.getElem?_eq_getElem (by omega)]; rfl)
                have HMY : Hid (∀ j, j < i → ys.getD j 0 ∈ ys) := Lib.hid (fun j hj => by rw [List.getD_eq_getElem?_getD, List.getElem?_eq_getElem (by omega)]; exact List.getElem_mem _)
                have HFT := Lib.hid hfy
                have HNY : Hid (∀ x ∈ ys, nanB x = false) := Lib.hid (fun x hx => HNX.out x (hp.mem_iff.1 hx))
                have HSY := Lib.hid hs
                have HLY := Lib.hid hly
                have HBL := Lib.hid hb
                have hlt := HPL.out.lt
                obtain ⟨f, hf, f1, f2, fo⟩ := HPL.out.frac (by omega)
                have HF := Lib.hid hf
                have HF2 := Lib.hid f2
                have HFO := Lib.hid fo
                obtain ⟨F, hF⟩ : ∃ F, fiB P = F := ⟨_, rfl⟩
                obtain ⟨IF, hIF⟩ : ∃ IF, floatOfInt FloatKind.f64 ((F : Nat) : Int) = IF := ⟨_, rfl⟩
                rw [hF] at hf hlt
                rw [hIF] at hf
                have F4 := fun w => run_float_arith (P := Try.prog) w .sub 27 .f64 P IF f hf
                have HFF := Lib.hid hF
                have HIF := Lib.hid hIF
                have HFN := Lib.hid hlt
                clear ho hp hs hb hys hly hfy hcy hb1 hf hF f2 fo hlt HSO HNXX
                go_wp2_with fail
                go_loopw [12] (fun iv wr => ∃ (j : Nat), j ≤ F ∧ iv = .int .i64 (j : Int) ∧ wr = wy) (fun iv _ => F - (intOf iv).toNat)
                case atStart => exact ⟨0, Nat.zero_le _, rfl, rfl⟩
                case round =>
                  obtain ⟨j, hj, rfl, rfl⟩ := hrel
                  rename World => wy
                  have hFl := HFN.out
                  have hLl := HLN.out
                  have z0 : (0 : Int) ≤ (j : Int) := by omega
                  have zn : (j : Int) < (i : Int) := by omega
                  rcases Nat.lt_or_ge j l with hjl | hjl
                  · have dl : decide ((j : Int) < (l : Int)) = true := by simp; omega
                    have oo := ord_int (j := j + 1) (by omega) HPL.out
                    have hcv : ((j : Int) + 1) = ((j + 1 : Nat) : Int) := by push_cast; rfl
                    have fl := fi_le (j := j + 1) (P := P)
                    rw [HFF.out] at fl
                    obtain ⟨J, hJ⟩ : ∃ J, floatOfInt FloatKind.f64 ((j : Int) + 1) = J := ⟨_, rfl⟩
                    rw [← hcv, hJ] at oo
                    have HFL := Lib.hid fl
                    clear fl hcv
                    rcases (by omega : (((j + 1) * 2 ^ cE : Nat) : Int) < (WS (szB P) : Int) ∨ (((j + 1) * 2 ^ cE : Nat) : Int) = (WS (szB P) : Int) ∨ (WS (szB P) : Int) < (((j + 1) * 2 ^ cE : Nat) : Int)) with g | g | g
                    · rw [order_lt_iff.2 g] at oo
                      have hj2 : j + 1 ≤ F := HFL.out.1 (by omega)
                      clear g
                      go_wp2
                      go_roundw
                      case rel => exact ⟨j + 1, hj2, by push_cast; rfl, by first | rfl | trivial⟩
                      case measure => first | done | (simp [intOf] <;> omega)
                    · rw [order_eq_iff.2 g] at oo
                      have hj2 : j + 1 ≤ F := HFL.out.1 (by omega)
                      clear g
                      go_wp2
                      go_roundw
                      case rel => exact ⟨j + 1, hj2, by push_cast; rfl, by first | rfl | trivial⟩
                      case measure => first | done | (simp [intOf] <;> omega)
                    · rw [order_gt_iff.2 g] at oo
                      have hj2 : ¬ j + 1 ≤ F := fun hh => by have := HFL.out.2 hh; omega
                      have hjF : j = F := by omega
                      clear g HFL hj2
                      subst hjF
                      have hIF2 := HIF.out
                      have q0' := HCL.out j HFN.out
                      by_cases h0 : szB f = 0
                      · have F3 := ord_z f1 h0
                        have HE := Lib.hid (betV_lo (xs := ys) (n := i) HF.out (.inl (by exact h0)))
                        rw [HFF.out] at HE
                        have lo1 := HFT.out _ (HMY.out j HFN.out)
                        generalize ys.getD j 0 = lo at *
                        clear h0
                        go_upto_region 22 with (fail)
                        go_quiet (fail)
                        have HBQ := Lib.hid (below_drewN HBL.out nq)
                        have q1' : (wy.drewN nq).cell? ⟨by0, oy + j, none⟩ = some (.float .f64 lo) := q0'
                        generalize wy.drewN nq = wz at *
                        clear q0'
                        go_wp2
                        go_ret2
                        exact ⟨lo, rfl, lo1, HE.out.symm, HBQ.out⟩
                      · have F3 := HPL.out.gt HFO.out h0
                        rcases Nat.lt_or_ge (j + 1) i with h2 | h2
                        · have q1' := HCL.out (j + 1) h2
                          have lo1 := HFT.out _ (HMY.out j HFN.out)
                          have hi1 := HFT.out _ (HMY.out (j + 1) h2)
                          have nlo := HNY.out _ (HMY.out j HFN.out)
                          have nhi := HNY.out _ (HMY.out (j + 1) h2)
                          have hle2 := srt_iff.1 HSY.out j (j + 1) (by omega) (by rw [HLY.out]; exact h2)
                          have dF : ((j : Int) == (l : Int)) = false := beq_eq_false_iff_ne.2 (by have := HLN.out; omega)
                          have k2 : (j : Int) + 1 < (i : Int) := by omega
                          have k3 : (0 : Int) ≤ (j : Int) + 1 := by omega
                          have HB1 : Hid (∀ d m, floatBits .sub .f64 (ys.getD (j + 1) 0) (ys.getD j 0) = some d → floatBits .mul .f64 f d = some m → sameB (ys.getD j 0) (ys.getD (j + 1) 0) = false → betV ys i P = fop .add (canB (ys.getD j 0)) (canB m)) := Lib.hid (fun d m e1 e2 e3 => by
                            have hff := HFF.out
                            have := betV_up (xs := ys) (n := i) (d := d) (m := m) HF.out (by rw [hff]; exact e1) e2 (by rw [hff, e3]; simp; exact ⟨h0, by omega⟩)
                            rwa [hff] at this)
                          have HB2 : Hid (sameB (ys.getD j 0) (ys.getD (j + 1) 0) = true → betV ys i P = canB (ys.getD j 0)) := Lib.hid (fun e3 => by
                            have hff := HFF.out
                            have := betV_lo (xs := ys) (n := i) HF.out (.inr (.inr (by rw [hff]; exact e3)))
                            rwa [hff] at this)
                          generalize ys.getD j 0 = lo at *
                          generalize ys.getD (j + 1) 0 = hi at *
                          have HSM := Lib.hid (fun t => same3_q wy lo hi lo1 hi1 t)
                          have f3 : szB f < 9218868437227405312 := by have := HFO.out.szi; have := HF2.out; omega
                          cases hsm : sameB lo hi with
                          | true =>
                            have HE := Lib.hid (HB2.out hsm)
                            rw [hsm] at HSM
                            clear h0 hle2 nlo nhi HB1 HB2 hsm
                            go_upto_region 22 with (fail)
                            go_quiet (first | (go_at_call 19; with_reducible exact Calls.quiet_of_same (HSM.out _)))
                            have HBQ := Lib.hid (below_drewN HBL.out nq)
                            have q2' : (wy.drewN nq).cell? ⟨by0, oy + j, none⟩ = some (.float .f64 lo) := q0'
                            generalize wy.drewN nq = wz at *
                            clear q0' q1' HSM
                            go_wp2
                            go_ret2
                            exact ⟨lo, rfl, lo1, HE.out.symm, HBQ.out⟩
                          | false =>
                            have hlt2 : idxB lo < idxB hi := by
                              unfold sameB at hsm
                              have := beq_eq_false_iff_ne.1 hsm
                              omega
                            obtain ⟨d, hd, d2, d3⟩ := sub_ord hi1 lo1 nhi nlo hlt2
                            obtain ⟨m, hm, m2⟩ := mul_some f1 d2 f3 h0 d3
                            have HE := Lib.hid (HB1.out d m hd hm hsm)
                            have F5 := fun w => run_float_arith (P := Try.prog) w .sub 27 .f64 hi lo d hd
                            have F6 := fun w => run_float_arith (P := Try.prog) w .mul 27 .f64 f d m hm
                            rw [hsm] at HSM
                            clear h0 hle2 nlo nhi HB1 HB2 hsm hlt2 hd hm
                            go_upto_region 22 with (fail)
                            go_quiet (first | (go_at_call 19; with_reducible exact Calls.quiet_of_same (HSM.out _)))
                            have HBQ := Lib.hid (below_drewN HBL.out nq)
                            have q2' : (wy.drewN nq).cell? ⟨by0, oy + j, none⟩ = some (.float .f64 lo) := q0'
                            have q3' : (wy.drewN nq).cell? ⟨by0, oy + (j + 1), none⟩ = some (.float .f64 hi) := q1'
                            have ly' : by0 < (wy.drewN nq).heap.size := hyl
                            generalize wy.drewN nq = wz at *
                            clear q0' q1' HSM hyl
                            go_upto_region 24 with (fail)
                            go_quiet (fail)
                            have HBQ2 := Lib.hid (below_drewN HBQ.out nq)
                            have q4' : (wz.drewN nq).cell? ⟨by0, oy + j, none⟩ = some (.float .f64 lo) := q2'
                            generalize wz.drewN nq = wv at *
                            clear q2' q3'
                            go_wp2_with (refine upon_float rfl ?_; intro v k lv cv)
                            go_wp2
                            go_ret2
                            exact ⟨v, rfl, lv, cv.out.trans HE.out.symm, below_drewN HBQ2.out k⟩
                        · have dF : ((j : Int) == (l : Int)) = true := by rw [beq_iff_eq]; have := HLN.out; have := HFN.out; omega
                          have HE := Lib.hid (betV_lo (xs := ys) (n := i) HF.out (.inr (.inl (by rw [HFF.out]; have := HFN.out; omega))))
                          rw [HFF.out] at HE
                          have lo1 := HFT.out _ (HMY.out j HFN.out)
                          generalize ys.getD j 0 = lo at *
                          clear h0
                          go_upto_region 22 with (fail)
                          go_quiet (fail)
                          have HBQ := Lib.hid (below_drewN HBL.out nq)
                          have q1' : (wy.drewN nq).cell? ⟨by0, oy + j, none⟩ = some (.float .f64 lo) := q0'
                          generalize wy.drewN nq = wz at *
                          clear q0'
                          go_wp2
                          go_ret2
                          exact ⟨lo, rfl, lo1, HE.out.symm, HBQ.out⟩
                  · have dl : decide ((j : Int) < (l : Int)) = false := by simp; omega
                    have hjF : j = F := by omega
                    subst hjF
                    have hIF2 := HIF.out
                    have q0' := HCL.out j HFN.out
                    by_cases h0 : szB f = 0
                    · have F3 := ord_z f1 h0
                      have HE := Lib.hid (betV_lo (xs := ys) (n := i) HF.out (.inl (by exact h0)))
                      rw [HFF.out] at HE
                      have lo1 := HFT.out _ (HMY.out j HFN.out)
                      generalize ys.getD j 0 = lo at *
                      clear h0
                      go_upto_region 22 with (fail)
                      go_quiet (fail)
                      have HBQ := Lib.hid (below_drewN HBL.out nq)
                      have q1' : (wy.drewN nq).cell? ⟨by0, oy + j, none⟩ = some (.float .f64 lo) := q0'
                      generalize wy.drewN nq = wz at *
                      clear q0'
                      go_wp2
                      go_ret2
                      exact ⟨lo, rfl, lo1, HE.out.symm, HBQ.out⟩
                    · have F3 := HPL.out.gt HFO.out h0
                      rcases Nat.lt_or_ge (j + 1) i with h2 | h2
                      · exfalso; have := HLN.out; omega
                      · have dF : ((j : Int) == (l : Int)) = true := by rw [beq_iff_eq]; have := HLN.out; have := HFN.out; omega
                        have HE := Lib.hid (betV_lo (xs := ys) (n := i) HF.out (.inr (.inl (by rw [HFF.out]; have := HFN.out; omega))))
                        rw [HFF.out] at HE
                        have lo1 := HFT.out _ (HMY.out j HFN.out)
                        generalize ys.getD j 0 = lo at *
                        clear h0
                        go_upto_region 22 with (fail)
                        go_quiet (fail)
                        have HBQ := Lib.hid (below_drewN HBL.out nq)
                        have q1' : (wy.drewN nq).cell? ⟨by0, oy + j, none⟩ = some (.float .f64 lo) := q0'
                        generalize wy.drewN nq = wz at *
                        clear q0'
                        go_wp2
                        go_ret2
                        exact ⟨lo, rfl, lo1, HE.out.symm, HBQ.out⟩
            · have HG := Lib.hid (show (lt0B q || gt1B q) = false by rw [a2]; unfold gt1B; rw [decide_eq_false (show ¬ 4607182418800017408 < q by omega)]; simp)
              clear a1 a2 a3 b1 hq nq
              rcases Nat.eq_zero_or_pos i with h0 | h0
              · have d2 : ((i : Int) == 0) = true := by rw [h0]; rfl
                obtain rfl : Z = (0, 7) := HZ.out.symm.trans (quaE_none H1.out HNN.out HG.out (by rw [HL.out]; exact h0))
                clear h0
                go_wp2
                go_ret2
                exact ⟨0, rfl, by omega, can0, Below.refl _ _⟩
              · have d2 : ((i : Int) == 0) = false := beq_eq_false_iff_ne.2 (by omega)
                have hz := HZ.out.symm.trans (quaE_ok H1.out HNN.out HG.out (by rw [HL.out]; omega))
                obtain ⟨P, hm, hpl, hqp⟩ := qua_pl (xs := xs) HHQ.out HQ2.out HG.out (by rw [HL.out]; omega) (by rw [HL.out]; omega)
                rw [hqp, HL.out] at hz
                rw [HL.out] at hm hpl
                obtain ⟨l, hl⟩ : ∃ l, i - 1 = l := ⟨_, rfl⟩
                rw [hl] at hm
                have s1 : (i : Int) - 1 = (l : Int) := by omega
                have HLN := Lib.hid (show i = l + 1 by omega)
                obtain ⟨I, hI⟩ : ∃ I, floatOfInt FloatKind.f64 ((l : Nat) : Int) = I := ⟨_, rfl⟩
                rw [hI] at hm
                have F2 := fun w => run_float_arith (P := Try.prog) w .mul 27 .f64 q I P hm
                have HPL := Lib.hid hpl
                have HSO := Lib.hid (sorted_any w A i c xs HA.out (by omega))
                have HNXX := Lib.hid (fun x hx => And.intro (HA.out.fit x hx) (HNX.out x hx))
                clear hm hpl hqp hl
                go_wp2_with fail
                with_reducible refine HSO.out.mono ?_
                rintro e wy ⟨A', c', ys, rfl, ho, hp, hs, hb⟩
                have hys := srtV_eq hp hs HNXX.out
                rw [← hys] at hz
                subst hz
                have hly : ys.length = i := by have := hp.length_eq; rw [this]; exact HL.out
                have hfy : ∀ x ∈ ys, x ≤ 18446744073709551615 := fun x hx => HA.out.fit x (hp.mem_iff.1 hx)
                obtain ⟨by0, oy, rfl, hb1, hyl, hcy, _⟩ := ho.cell (by omega)
                have HCL : Hid (∀ j, j < i → wy.cell? ⟨by0, oy + j, none⟩ = some (.float .f64 (ys.getD j 0))) := Lib.hid (fun j hj => by
                  refine hcy j _ ?_
                  unfold Fl
                  rw [List.getElem?_map, List.getD_eq_getElem?_getD, List.getElem?_eq_getElem (by omega)]; rfl)
                have HMY : Hid (∀ j, j < i → ys.getD j 0 ∈ ys) := Lib.hid (fun j hj => by rw [List.getD_eq_getElem?_getD, List.getElem?_eq_getElem (by omega)]; exact List.getElem_mem _)
                have HFT := Lib.hid hfy
                have HNY : Hid (∀ x ∈ ys, nanB x = false) := Lib.hid (fun x hx => HNX.out x (hp.mem_iff.1 hx))
                have HSY := Lib.hid hs
                have HLY := Lib.hid hly
                have HBL := Lib.hid hb
                have hlt := HPL.out.lt
                obtain ⟨f, hf, f1, f2, fo⟩ := HPL.out.frac (by omega)
                have HF := Lib.hid hf
                have HF2 := Lib.hid f2
                have HFO := Lib.hid fo
                obtain ⟨F, hF⟩ : ∃ F, fiB P = F := ⟨_, rfl⟩
                obtain ⟨IF, hIF⟩ : ∃ IF, floatOfInt FloatKind.f64 ((F : Nat) : Int) = IF := ⟨_, rfl⟩
                rw [hF] at hf hlt
                rw [hIF] at hf
                have F4 := fun w => run_float_arith (P := Try.prog) w .sub 27 .f64 P IF f hf
                have HFF := Lib.hid hF
                have HIF := Lib.hid hIF
                have HFN := Lib.hid hlt
                clear ho hp hs hb hys hly hfy hcy hb1 hf hF f2 fo hlt HSO HNXX
                go_wp2_with fail
                go_loopw [12] (fun iv wr => ∃ (j : Nat), j ≤ F ∧ iv = .int .i64 (j : Int) ∧ wr = wy) (fun iv _ => F - (intOf iv).toNat)
                case atStart => exact ⟨0, Nat.zero_le _, rfl, rfl⟩
                case round =>
                  obtain ⟨j, hj, rfl, rfl⟩ := hrel
                  rename World => wy
                  have hFl := HFN.out
                  have hLl := HLN.out
                  have z0 : (0 : Int) ≤ (j : Int) := by omega
                  have zn : (j : Int) < (i : Int) := by omega
                  rcases Nat.lt_or_ge j l with hjl | hjl
                  · have dl : decide ((j : Int) < (l : Int)) = true := by simp; omega
                    have oo := ord_int (j := j + 1) (by omega) HPL.out
                    have hcv : ((j : Int) + 1) = ((j + 1 : Nat) : Int) := by push_cast; rfl
                    have fl := fi_le (j := j + 1) (P := P)
                    rw [HFF.out] at fl
                    obtain ⟨J, hJ⟩ : ∃ J, floatOfInt FloatKind.f64 ((j : Int) + 1) = J := ⟨_, rfl⟩
                    rw [← hcv, hJ] at oo
                    have HFL := Lib.hid fl
                    clear fl hcv
                    rcases (by omega : (((j + 1) * 2 ^ cE : Nat) : Int) < (WS (szB P) : Int) ∨ (((j + 1) * 2 ^ cE : Nat) : Int) = (WS (szB P) : Int) ∨ (WS (szB P) : Int) < (((j + 1) * 2 ^ cE : Nat) : Int)) with g | g | g
                    · rw [order_lt_iff.2 g] at oo
                      have hj2 : j + 1 ≤ F := HFL.out.1 (by omega)
                      clear g
                      go_wp2
                      go_roundw
                      case rel => exact ⟨j + 1, hj2, by push_cast; rfl, by first | rfl | trivial⟩
                      case measure => first | done | (simp [intOf] <;> omega)
                    · rw [order_eq_iff.2 g] at oo
                      have hj2 : j + 1 ≤ F := HFL.out.1 (by omega)
                      clear g
                      go_wp2
                      go_roundw
                      case rel => exact ⟨j + 1, hj2, by push_cast; rfl, by first | rfl | trivial⟩
                      case measure => first | done | (simp [intOf] <;> omega)
                    · rw [order_gt_iff.2 g] at oo
                      have hj2 : ¬ j + 1 ≤ F := fun hh => by have := HFL.out.2 hh; omega
                      have hjF : j = F := by omega
                      clear g HFL hj2
                      subst hjF
                      have hIF2 := HIF.out
                      have q0' := HCL.out j HFN.out
                      by_cases h0 : szB f = 0
                      · have F3 := ord_z f1 h0
                        have HE := Lib.hid (betV_lo (xs := ys) (n := i) HF.out (.inl (by exact h0)))
                        rw [HFF.out] at HE
                        have lo1 := HFT.out _ (HMY.out j HFN.out)
                        generalize ys.getD j 0 = lo at *
                        clear h0
                        go_upto_region 22 with (fail)
                        go_quiet (fail)
                        have HBQ := Lib.hid (below_drewN HBL.out nq)
                        have q1' : (wy.drewN nq).cell? ⟨by0, oy + j, none⟩ = some (.float .f64 lo) := q0'
                        generalize wy.drewN nq = wz at *
                        clear q0'
                        go_wp2
                        go_ret2
                        exact ⟨lo, rfl, lo1, HE.out.symm, HBQ.out⟩
                      · have F3 := HPL.out.gt HFO.out h0
                        rcases Nat.lt_or_ge (j + 1) i with h2 | h2
                        · have q1' := HCL.out (j + 1) h2
                          have lo1 := HFT.out _ (HMY.out j HFN.out)
                          have hi1 := HFT.out _ (HMY.out (j + 1) h2)
                          have nlo := HNY.out _ (HMY.out j HFN.out)
                          have nhi := HNY.out _ (HMY.out (j + 1) h2)
                          have hle2 := srt_iff.1 HSY.out j (j + 1) (by omega) (by rw [HLY.out]; exact h2)
                          have dF : ((j : Int) == (l : Int)) = false := beq_eq_false_iff_ne.2 (by have := HLN.out; omega)
                          have k2 : (j : Int) + 1 < (i : Int) := by omega
                          have k3 : (0 : Int) ≤ (j : Int) + 1 := by omega
                          have HB1 : Hid (∀ d m, floatBits .sub .f64 (ys.getD (j + 1) 0) (ys.getD j 0) = some d → floatBits .mul .f64 f d = some m → sameB (ys.getD j 0) (ys.getD (j + 1) 0) = false → betV ys i P = fop .add (canB (ys.getD j 0)) (canB m)) := Lib.hid (fun d m e1 e2 e3 => by
                            have hff := HFF.out
                            have := betV_up (xs := ys) (n := i) (d := d) (m := m) HF.out (by rw [hff]; exact e1) e2 (by rw [hff, e3]; simp; exact ⟨h0, by omega⟩)
                            rwa [hff] at this)
                          have HB2 : Hid (sameB (ys.getD j 0) (ys.getD (j + 1) 0) = true → betV ys i P = canB (ys.getD j 0)) := Lib.hid (fun e3 => by
                            have hff := HFF.out
                            have := betV_lo (xs := ys) (n := i) HF.out (.inr (.inr (by rw [hff]; exact e3)))
                            rwa [hff] at this)
                          generalize ys.getD j 0 = lo at *
                          generalize ys.getD (j + 1) 0 = hi at *
                          have HSM := Lib.hid (fun t => same3_q wy lo hi lo1 hi1 t)
                          have f3 : szB f < 9218868437227405312 := by have := HFO.out.szi; have := HF2.out; omega
                          cases hsm : sameB lo hi with
                          | true =>
                            have HE := Lib.hid (HB2.out hsm)
                            rw [hsm] at HSM
                            clear h0 hle2 nlo nhi HB1 HB2 hsm
                            go_upto_region 22 with (fail)
                            go_quiet (first | (go_at_call 19; with_reducible exact Calls.quiet_of_same (HSM.out _)))
                            have HBQ := Lib.hid (below_drewN HBL.out nq)
                            have q2' : (wy.drewN nq).cell? ⟨by0, oy + j, none⟩ = some (.float .f64 lo) := q0'
                            generalize wy.drewN nq = wz at *
                            clear q0' q1' HSM
                            go_wp2
                            go_ret2
                            exact ⟨lo, rfl, lo1, HE.out.symm, HBQ.out⟩
                          | false =>
                            have hlt2 : idxB lo < idxB hi := by
                              unfold sameB at hsm
                              have := beq_eq_false_iff_ne.1 hsm
                              omega
                            obtain ⟨d, hd, d2, d3⟩ := sub_ord hi1 lo1 nhi nlo hlt2
                            obtain ⟨m, hm, m2⟩ := mul_some f1 d2 f3 h0 d3
                            have HE := Lib.hid (HB1.out d m hd hm hsm)
                            have F5 := fun w => run_float_arith (P := Try.prog) w .sub 27 .f64 hi lo d hd
                            have F6 := fun w => run_float_arith (P := Try.prog) w .mul 27 .f64 f d m hm
                            rw [hsm] at HSM
                            clear h0 hle2 nlo nhi HB1 HB2 hsm hlt2 hd hm
                            go_upto_region 22 with (fail)
                            go_quiet (first | (go_at_call 19; with_reducible exact Calls.quiet_of_same (HSM.out _)))
                            have HBQ := Lib.hid (below_drewN HBL.out nq)
                            have q2' : (wy.drewN nq).cell? ⟨by0, oy + j, none⟩ = some (.float .f64 lo) := q0'
                            have q3' : (wy.drewN nq).cell? ⟨by0, oy + (j + 1), none⟩ = some (.float .f64 hi) := q1'
                            have ly' : by0 < (wy.drewN nq).heap.size := hyl
                            generalize wy.drewN nq = wz at *
                            clear q0' q1' HSM hyl
                            go_upto_region 24 with (fail)
                            go_quiet (fail)
                            have HBQ2 := Lib.hid (below_drewN HBQ.out nq)
                            have q4' : (wz.drewN nq).cell? ⟨by0, oy + j, none⟩ = some (.float .f64 lo) := q2'
                            generalize wz.drewN nq = wv at *
                            clear q2' q3'
                            go_wp2_with (refine upon_float rfl ?_; intro v k lv cv)
                            go_wp2
                            go_ret2
                            exact ⟨v, rfl, lv, cv.out.trans HE.out.symm, below_drewN HBQ2.out k⟩
                        · have dF : ((j : Int) == (l : Int)) = true := by rw [beq_iff_eq]; have := HLN.out; have := HFN.out; omega
                          have HE := Lib.hid (betV_lo (xs := ys) (n := i) HF.out (.inr (.inl (by rw [HFF.out]; have := HFN.out; omega))))
                          rw [HFF.out] at HE
                          have lo1 := HFT.out _ (HMY.out j HFN.out)
                          generalize ys.getD j 0 = lo at *
                          clear h0
                          go_upto_region 22 with (fail)
                          go_quiet (fail)
                          have HBQ := Lib.hid (below_drewN HBL.out nq)
                          have q1' : (wy.drewN nq).cell? ⟨by0, oy + j, none⟩ = some (.float .f64 lo) := q0'
                          generalize wy.drewN nq = wz at *
                          clear q0'
                          go_wp2
                          go_ret2
                          exact ⟨lo, rfl, lo1, HE.out.symm, HBQ.out⟩
                  · have dl : decide ((j : Int) < (l : Int)) = false := by simp; omega
                    have hjF : j = F := by omega
                    subst hjF
                    have hIF2 := HIF.out
                    have q0' := HCL.out j HFN.out
                    by_cases h0 : szB f = 0
                    · have F3 := ord_z f1 h0
                      have HE := Lib.hid (betV_lo (xs := ys) (n := i) HF.out (.inl (by exact h0)))
                      rw [HFF.out] at HE
                      have lo1 := HFT.out _ (HMY.out j HFN.out)
                      generalize ys.getD j 0 = lo at *
                      clear h0
                      go_upto_region 22 with (fail)
                      go_quiet (fail)
                      have HBQ := Lib.hid (below_drewN HBL.out nq)
                      have q1' : (wy.drewN nq).cell? ⟨by0, oy + j, none⟩ = some (.float .f64 lo) := q0'
                      generalize wy.drewN nq = wz at *
                      clear q0'
                      go_wp2
                      go_ret2
                      exact ⟨lo, rfl, lo1, HE.out.symm, HBQ.out⟩
                    · have F3 := HPL.out.gt HFO.out h0
                      rcases Nat.lt_or_ge (j + 1) i with h2 | h2
                      · exfalso; have := HLN.out; omega
                      · have dF : ((j : Int) == (l : Int)) = true := by rw [beq_iff_eq]; have := HLN.out; have := HFN.out; omega
                        have HE := Lib.hid (betV_lo (xs := ys) (n := i) HF.out (.inr (.inl (by rw [HFF.out]; have := HFN.out; omega))))
                        rw [HFF.out] at HE
                        have lo1 := HFT.out _ (HMY.out j HFN.out)
                        generalize ys.getD j 0 = lo at *
                        clear h0
                        go_upto_region 22 with (fail)
                        go_quiet (fail)
                        have HBQ := Lib.hid (below_drewN HBL.out nq)
                        have q1' : (wy.drewN nq).cell? ⟨by0, oy + j, none⟩ = some (.float .f64 lo) := q0'
                        generalize wy.drewN nq = wz at *
                        clear q0'
                        go_wp2
                        go_ret2
                        exact ⟨lo, rfl, lo1, HE.out.symm, HBQ.out⟩
end Go.Proofs.Ytffibfnagoagcaa
