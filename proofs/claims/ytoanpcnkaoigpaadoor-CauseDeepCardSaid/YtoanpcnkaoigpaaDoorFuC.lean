/- CauseFuel: its walk. -/
import Derived.Test.YtoanpcnkaoigpaaDoorFuW
import Derived.Test.YtoanpcnkaoigpaaDoorRvC
namespace Go.Proofs.YtoanpcnkaoigpaaDoor
open Go.RowKit
set_option maxRecDepth 100000
set_option linter.unusedVariables false
set_option linter.unusedSimpArgs false
set_option maxHeartbeats 4000000

theorem run_fuelP {w0 W : World} (h0 : Lib0 w0) (hb : Below w0.heap.size w0 W) {Pa : Value} {w : Nat} {n : Int} (hw : 2 ≤ w) (hw9 : w ≤ 9) (hq : ProgQ W W.heap.size Pa (fuelP w n)) (h1 : -9223372036854775808 ≤ n) (h2 : n ≤ 9223372036854775807) :
    ∃ M, 1000 ≤ M ∧ M ≤ 4096 ∧ Calls Tryd.prog 13 #[Pa] W (RunM W M 0 0 (List.replicate M (1, 0, n))) := by
  obtain ⟨r1, M, m1, m2, r2⟩ := fuelP_run hw n
  refine ⟨M, m1, m2, (run_ok h0 hb hq (fuelP_ok hw9 n h1 h2)).mono ?_⟩
  intro e w' hE
  obtain ⟨A, c, k1, k2, k3⟩ := hE
  have hl : (runP (fuelP w n)).st.marks.length = M := by rw [r2]; simp
  rw [hl, r1] at k1
  rw [hl, r2] at k2
  exact ⟨A, c, k1, k2, k3⟩
theorem causeFuel_walk {w0 : World} (wd : Nat) (n : Int) (w : World) (h0 : Lib0 w0) (hb : Below w0.heap.size w0 w) (hwd : wd < 256) (hn1 : -9223372036854775808 ≤ n) (hn2 : n ≤ 9223372036854775807) :
    Calls Tryd.prog 6 #[.int .u8 (wd : Int), .int .i64 n] w fun e w' => e = .returned (.bool true) ∧ Below w.heap.size w w' := by
  obtain ⟨iA, hiA, hA0, hA1, hA2⟩ := info_partsAct
  obtain ⟨iP, hiP, hP0, hP1, hP2⟩ := info_partsActs
  have HA := Lib.hid (awake9_any h0 hb)
  have H0 := Lib.hid h0
  have HB := Lib.hid hb
  obtain ⟨r, hr⟩ : ∃ r, wd % 8 = r := ⟨_, rfl⟩
  have hr8 : r < 8 := by omega
  obtain ⟨ww, hww⟩ : ∃ ww, 2 + r = ww := ⟨_, rfl⟩
  have hw2 : 2 ≤ ww ∧ ww ≤ 9 := by omega
  have t1 : Int.tmod (wd : Int) 8 = (r : Int) := by rw [Int.tmod_eq_emod_of_nonneg (by omega)]; omega
  have t2 : IntKind.u8.wrap (r : Int) = (r : Int) := by simp [IntKind.wrap, IntKind.bits, IntKind.signed]; omega
  have t3 : IntKind.i64.wrap (r : Int) = (r : Int) := IntWalk.i64_in _ (by omega)
  have t4 : IntKind.i64.wrap (2 + (r : Int)) = (ww : Int) := by rw [IntWalk.i64_in _ (by omega)]; omega
  have HN := Lib.hid (And.intro hn1 hn2)
  have HR := Lib.hid hr
  have HW := Lib.hid hww
  clear h0 hb hwd hr hww
  go_enter Tryd.func6, Tryd.ntmps6
  go_wp2_with fail
  with_reducible refine HA.out.mono ?_
  rintro e w3 ⟨rfl, hb1⟩
  have HB3 := Lib.hid hb1
  clear hb1
  go_wp2_with fail
  go_loopw [6, 20] (fun pv iv wr => ∃ (i cp : Nat) (Ap : Option Addr) (Fs : List Value), i ≤ 32 ∧ iv = .int .i64 (i : Int) ∧ pv = .slice Ap i cp ∧ FuI w3 wr ww n i Ap cp Fs) (fun _ iv _ => 32 - (intOf iv).toNat)
  case atStart => exact ⟨0, 0, none, _, Nat.zero_le _, rfl, rfl, FuI.start _ _ _⟩
  case round =>
    rename World => w4
    obtain ⟨i, cp, Ap, Fs, hi, rfl, rfl, hI⟩ := hrel
    have HI := Lib.hid hI
    clear hI
    rcases Nat.lt_or_ge i 32 with h1 | h1
    · have hii : (i : Int) < 32 := by omega
      have hi1 : IntKind.i64.wrap ((i : Int) + 1) = (i : Int) + 1 := IntWalk.i64_in _ (by omega)
      have kf := BlkL.new w4 [.int .u8 1, .int .i64 n] 24
      have bf := (Below.refl w4.heap.size w4).alloc (Nat.le_refl _) (.cells #[.int .u8 1, .int .i64 n] 24)
      rcases Nat.lt_or_ge (i + 1) 32 with hn | hn
      · have hcond : (i : Int) + 1 < 32 := by omega
        have hil : i + 1 < 32 := by omega
        have HS8 : Hid (OwnS (w4.alloc (.cells #[.int .u8 1, .int .i64 n] 24)) w4.heap.size 2 (some ⟨w4.heap.size, 0, none⟩) 1 1 (FAc [((1 : Nat), n)])) := Lib.hid (OwnS.lit kf (by simp [FAc]) (by unfold maxLen; omega) (Nat.le_refl _))
        have HBF := Lib.hid bf
        clear kf bf
        go_wp2_with fail
        go_loopw [8, 27] (fun fv jv wx => ∃ (j c8 : Nat) (A8 : Option Addr), j ≤ ww ∧ jv = .int .i64 (j : Int) ∧ fv = .slice A8 (1 + j) c8 ∧ OwnS wx w4.heap.size 2 A8 (1 + j) c8 (FAc ((1, n) :: List.replicate j (callV (i + 1)))) ∧ Below w4.heap.size w4 wx) (fun _ jv _ => ww - (intOf jv).toNat)
        case atStart => exact ⟨0, 1, _, Nat.zero_le _, rfl, rfl, HS8.out, HBF.out⟩
        case round =>
          obtain ⟨j, c8, A8, hj, rfl, rfl, ho8, hbx⟩ := hrel
          have HO8 := Lib.hid ho8
          have HBX := Lib.hid hbx
          clear ho8 hbx
          rcases Nat.lt_or_ge j ww with h2 | h2
          · have hjj : (j : Int) < (ww : Int) := by omega
            have hj1 : IntKind.i64.wrap ((j : Int) + 1) = (j : Int) + 1 := IntWalk.i64_in _ (by omega)
            have HSRC := Lib.hid (srcOne wr (.int .u8 2) (.int .i64 ((i : Int) + 1)) rfl rfl 24)
            have b1 := (Below.refl wr.heap.size wr).alloc (Nat.le_refl _) (.cells #[.int .u8 2, .int .i64 ((i : Int) + 1)] 24)
            have HB1' := Lib.hid b1
            have HO1 := Lib.hid (HO8.out.below b1)
            have hnn : (1 + j + 1) * 16 ≤ 140737488355328 := by omega
            have hbb : w4.heap.size ≤ (wr.alloc (.cells #[.int .u8 2, .int .i64 ((i : Int) + 1)] 24)).heap.size := by have := HBX.out.size; have := b1.size; omega
            clear b1
            go_wp2_with (refine wpList_append_s Tryd.underlying33 hiA hA0 hA1 hA2 rfl rfl (.tmp 32) (.tmp 36) rfl rfl HO1.out (some ⟨wr.heap.size, 0, none⟩) 1 1 _ rfl HSRC.out (fun e => by cases e) (by omega) hnn hbb ?_)
            intro A3 c3 w5 ho5 hf5 hbk5
            have HN5 : Hid (OwnS w5 w4.heap.size 2 A3 (1 + (j + 1)) c3 (FAc ((1, n) :: List.replicate (j + 1) (callV (i + 1))))) := Lib.hid (by
              have e : FAc ((1, n) :: List.replicate j (callV (i + 1))) ++ [.int .u8 2, .int .i64 ((i : Int) + 1)] = FAc ((1, n) :: List.replicate (j + 1) (callV (i + 1))) := by
                rw [List.replicate_succ']
                simp [FAc, callV]
              rw [← e]
              exact ho5)
            have HX5 : Hid (Below w4.heap.size w4 w5) := Lib.hid ((HBX.out.trans (HB1'.out.mono HBX.out.size)).trans (hf5.below hbb (fun x hx => (HO8.out.lt x hx).1)))
            clear ho5 hf5 hbk5
            go_wp2
            go_roundw
            case rel => exact ⟨j + 1, c3, A3, h2, rfl, rfl, HN5.out, HX5.out⟩
            case measure => simp [intOf]; omega
          · obtain rfl : j = ww := by omega
            have hjj : ¬ (j : Int) < (j : Int) := by omega
            have hfl : (fuelF j i n).length = (1 + j) := by simp only [fuelF, if_pos hil, List.length_cons, List.length_replicate]; omega
            have hfe : FAc (fuelF j i n) = FAc ((1, n) :: List.replicate j (callV (i + 1))) := by simp only [fuelF, if_pos hil]
            have HSO : Hid (OwnS wr w4.heap.size 2 A8 (fuelF j i n).length c8 (FAc (fuelF j i n))) := Lib.hid (by rw [hfl, hfe]; exact HO8.out)
            have HSRC := Lib.hid (srcOne1 wr (.slice A8 (1 + j) c8) rfl 33)
            have b1 := (Below.refl wr.heap.size wr).alloc (Nat.le_refl _) (.cells #[.slice A8 (1 + j) c8] 33)
            have HB1' := Lib.hid b1
            have HO1 := Lib.hid ((HI.out.own.below HBX.out).below b1)
            have hnn : (i + 1) * 24 ≤ 140737488355328 := by omega
            have hbb : w3.heap.size ≤ (wr.alloc (.cells #[.slice A8 (1 + j) c8] 33)).heap.size := by have := HI.out.bel.size; have := HBX.out.size; have := b1.size; omega
            have HFL := Lib.hid hfl
            clear b1 hfl hfe
            go_wp2_with (refine wpList_append_s Tryd.underlying34 hiP hP0 hP1 hP2 rfl rfl (.tmp 39) (.tmp 41) rfl rfl HO1.out (some ⟨wr.heap.size, 0, none⟩) 1 1 _ rfl HSRC.out (fun e => by cases e) (by omega) hnn hbb ?_)
            intro A3 c3 w5 ho5 hf5 hbk5
            have hst := HI.out.step (Ap' := A3) (cp' := c3) HBX.out HSO.out HB1'.out (by rw [HFL.out]; exact ho5) hf5 (fun y hy => (hbk5 y hy).imp id (fun q => ⟨by have := q.1; simp; omega, q.2⟩))
            have HST := Lib.hid hst
            clear ho5 hf5 hbk5 hst
            go_wp2
            go_roundw
            case rel => exact ⟨i + 1, c3, A3, _, h1, rfl, rfl, HST.out⟩
            case measure => simp [intOf]; omega
      · have hcond : ¬ (i : Int) + 1 < 32 := by omega
        have hil : ¬ i + 1 < 32 := by omega
        have HS8 : Hid (OwnS (w4.alloc (.cells #[.int .u8 1, .int .i64 n] 24)) w4.heap.size 2 (some ⟨w4.heap.size, 0, none⟩) 1 1 (FAc [((1 : Nat), n)])) := Lib.hid (OwnS.lit kf (by simp [FAc]) (by unfold maxLen; omega) (Nat.le_refl _))
        have HBF := Lib.hid bf
        clear kf bf
        go_wp2_with fail
        go_loopw [8, 27] (fun fv jv wx => ∃ (j c8 : Nat) (A8 : Option Addr), j ≤ ww ∧ jv = .int .i64 (j : Int) ∧ fv = .slice A8 1 c8 ∧ OwnS wx w4.heap.size 2 A8 1 c8 (FAc [((1 : Nat), n)]) ∧ Below w4.heap.size w4 wx) (fun _ jv _ => ww - (intOf jv).toNat)
        case atStart => exact ⟨0, 1, _, Nat.zero_le _, rfl, rfl, HS8.out, HBF.out⟩
        case round =>
          obtain ⟨j, c8, A8, hj, rfl, rfl, ho8, hbx⟩ := hrel
          have HO8 := Lib.hid ho8
          have HBX := Lib.hid hbx
          clear ho8 hbx
          rcases Nat.lt_or_ge j ww with h2 | h2
          · have hjj : (j : Int) < (ww : Int) := by omega
            have hj1 : IntKind.i64.wrap ((j : Int) + 1) = (j : Int) + 1 := IntWalk.i64_in _ (by omega)
            go_wp2
            go_roundw
            case rel => exact ⟨j + 1, c8, A8, h2, rfl, rfl, HO8.out, HBX.out⟩
            case measure => simp [intOf]; omega
          · obtain rfl : j = ww := by omega
            have hjj : ¬ (j : Int) < (j : Int) := by omega
            have hfl : (fuelF j i n).length = 1 := by simp only [fuelF, if_neg hil, List.replicate_zero, List.length_cons, List.length_nil]
            have hfe : FAc (fuelF j i n) = FAc [((1 : Nat), n)] := by simp only [fuelF, if_neg hil, List.replicate_zero]
            have HSO : Hid (OwnS wr w4.heap.size 2 A8 (fuelF j i n).length c8 (FAc (fuelF j i n))) := Lib.hid (by rw [hfl, hfe]; exact HO8.out)
            have HSRC := Lib.hid (srcOne1 wr (.slice A8 1 c8) rfl 33)
            have b1 := (Below.refl wr.heap.size wr).alloc (Nat.le_refl _) (.cells #[.slice A8 1 c8] 33)
            have HB1' := Lib.hid b1
            have HO1 := Lib.hid ((HI.out.own.below HBX.out).below b1)
            have hnn : (i + 1) * 24 ≤ 140737488355328 := by omega
            have hbb : w3.heap.size ≤ (wr.alloc (.cells #[.slice A8 1 c8] 33)).heap.size := by have := HI.out.bel.size; have := HBX.out.size; have := b1.size; omega
            have HFL := Lib.hid hfl
            clear b1 hfl hfe
            go_wp2_with (refine wpList_append_s Tryd.underlying34 hiP hP0 hP1 hP2 rfl rfl (.tmp 39) (.tmp 41) rfl rfl HO1.out (some ⟨wr.heap.size, 0, none⟩) 1 1 _ rfl HSRC.out (fun e => by cases e) (by omega) hnn hbb ?_)
            intro A3 c3 w5 ho5 hf5 hbk5
            have hst := HI.out.step (Ap' := A3) (cp' := c3) HBX.out HSO.out HB1'.out (by rw [HFL.out]; exact ho5) hf5 (fun y hy => (hbk5 y hy).imp id (fun q => ⟨by have := q.1; simp; omega, q.2⟩))
            have HST := Lib.hid hst
            clear ho5 hf5 hbk5 hst
            go_wp2
            go_roundw
            case rel => exact ⟨i + 1, c3, A3, _, h1, rfl, rfl, HST.out⟩
            case measure => simp [intOf]; omega
    · obtain rfl : i = 32 := by omega
      have hii : ¬ ((32 : Nat) : Int) < 32 := by omega
      obtain ⟨M, hm1, hm2, hrun⟩ := run_fuelP H0.out (HB.out.trans ((HB3.out.trans (HI.out.bel.mono HB3.out.size)).mono HB.out.size)) hw2.1 hw2.2 HI.out.prog HN.out.1 HN.out.2
      have HRUN := Lib.hid hrun
      have HBW := Lib.hid (HB3.out.trans (HI.out.bel.mono HB3.out.size))
      clear hrun
      go_wp2_with fail
      with_reducible refine HRUN.out.mono ?_
      intro e w8 hE
      obtain ⟨A8, c8, rfl, ho8, hb8⟩ := hE
      have B8 : Below w.heap.size w w8 := HBW.out.trans (hb8.mono HBW.out.size)
      have k15 := BlkL.new w8 [.int .u8 0, .int .i64 0] 26
      have B9 := B8.alloc B8.size (.cells #[.int .u8 0, .int .i64 0] 26)
      have o9 := ho8.below ((Below.refl w8.heap.size w8).alloc (Nat.le_refl _) (.cells #[.int .u8 0, .int .i64 0] 26))
      clear ho8 hb8 B8
      go_upto_region 17 with (fail)
      revert k15 B9 o9
      generalize w8.alloc (.cells #[.int .u8 0, .int .i64 0] 26) = w9
      generalize w8.heap.size = p15
      intro k15 B9 o9
      have HB9 := Lib.hid B9
      have HO9 := Lib.hid o9
      have z0 := k15.cell 0 _ rfl
      have z1 := k15.cell 1 _ rfl
      have zl := k15.lt
      have q1 := neqEnd 0 0
      have q4 : ¬ (4096 : Int) < (M : Int) := by omega
      have q5 : ¬ (M : Int) < 1000 := by omega
      clear k15 B9 o9
      go_wp2
      go_loopw [69] (fun iv wr => ∃ i : Nat, i ≤ M ∧ iv = .int .i64 (i : Int) ∧ Below w9.heap.size w9 wr) (fun iv _ => M - (intOf iv).toNat)
      case atStart => exact ⟨0, Nat.zero_le _, rfl, Below.refl _ _⟩
      case round =>
        obtain ⟨i, hi, rfl, hbe⟩ := hrel
        have HBE := Lib.hid hbe
        rcases Nat.lt_or_ge i M with h2 | h2
        · have hii2 : (i : Int) < (M : Int) := by omega
          have hi2 : IntKind.i64.wrap ((i : Int) + 1) = (i : Int) + 1 := IntWalk.i64_in _ (by omega)
          obtain ⟨mb, mo, rfl, _, hbl, hcl, _⟩ := HO9.out.cell (by omega)
          obtain ⟨f0, f1, f2⟩ := FMk_at (List.replicate M (1, 0, n)) i (1, 0, n) (by simp [h2])
          dsimp only at f0 f1 f2
          have a0 : wr.cell? ⟨mb, mo + i * 3, none⟩ = some (.int .u8 1) := (hbe.cell (p := ⟨mb, mo + i * 3, none⟩) hbl).trans (hcl _ _ f0)
          have a1 : wr.cell? ⟨mb, mo + i * 3 + 1, none⟩ = some (.int .u8 0) := (hbe.cell (p := ⟨mb, mo + i * 3 + 1, none⟩) hbl).trans (hcl _ _ f1)
          have a2 : wr.cell? ⟨mb, mo + i * 3 + 2, none⟩ = some (.int .i64 n) := (hbe.cell (p := ⟨mb, mo + i * 3 + 2, none⟩) hbl).trans (hcl _ _ f2)
          have q2 := neqMark 1 0 n
          clear hbe hcl f0 f1 f2
          go_wp2
          go_roundw
          case rel => exact ⟨i + 1, by omega, rfl, HBE.out.alloc HBE.out.size _⟩
          case measure => simp [intOf]; omega
        · obtain rfl : M = i := by omega
          have hii2 : ¬ (M : Int) < (M : Int) := by omega
          go_wp2
          go_ret
          exact ⟨rfl, HB9.out.trans (HBE.out.mono HB9.out.size)⟩
end Go.Proofs.YtoanpcnkaoigpaaDoor
