/- Contract: the document's DocMerge where the counts are good and both meters have numbers. -/
import Derived.Test.YtffibfnagoagcaaMetJ
import Derived.Test.YtffibfnagoagcaaMetE
namespace Go.Proofs.Ytffibfnagoagcaa
open Go.RowKit
set_option maxRecDepth 100000
set_option linter.unusedVariables false

set_option maxHeartbeats 6400000 in
theorem mergeD_both (w : World) (a b : MV) (oka : a.Ok) (okb : b.Ok) (hb : cntsB a b = true) (h0 : ¬ a.n = 0) (h1 : ¬ b.n = 0) (bo : Bool) (hf : fnB (fop .add (canB a.sum) (canB b.sum)) = bo) :
    Calls Try.prog 26 #[a.val, b.val] w fun e w' => ∃ m : MV, e = .returned (.tuple #[m.val, .int .i64 0]) ∧ m.Ok ∧ m.can = { mrgC a.can b.can with n := a.n + b.n, bad := a.bad + b.bad } ∧ Below w.heap.size w w' := by
  unfold cntsB at hb
  rw [Bool.and_eq_true] at hb
  obtain ⟨hc1, hc2⟩ := hb
  have c1 := cntB_iff.mp hc1
  have c2 := cntB_iff.mp hc2
  clear hc1 hc2
  obtain ⟨an, abad, asu, alo, alw, ahi, ame, asp⟩ := a
  obtain ⟨bn, bbad, bsu, blo, blw, bhi, bme, bsp⟩ := b
  simp only at c1 c2 h0 h1 hf
  obtain ⟨n0, n1, n2⟩ := c1
  obtain ⟨b0, b1, b2⟩ := c2
  have OKA := Lib.hid oka
  have OKB := Lib.hid okb
  have HF0 := Lib.hid hf
  have e0 : (an == 0) = false := by simp [h0]
  have e1 : (bn == 0) = false := by simp [h1]
  have HL := fun w => least3_any w alw blw OKA.out.low OKB.out.low
  have HH := fun w => most3_any w ahi bhi OKA.out.high OKB.out.high
  have hrl : leastB alw blw ≤ 18446744073709551615 := by unfold leastB; split; exact OKB.out.low; exact OKA.out.low
  have hrh : mostB ahi bhi ≤ 18446744073709551615 := by
    unfold mostB
    split
    · exact OKB.out.high
    · split
      · exact OKA.out.high
      · split
        · exact OKA.out.high
        · exact OKB.out.high
  have crl := least_can alw blw
  have crh := most_can ahi bhi
  generalize leastB alw blw = rl at *
  generalize mostB ahi bhi = rh at *
  have CRL := Lib.hid crl
  have CRH := Lib.hid crh
  clear oka okb hf crl crh
  simp only [MV.val]
  have kst : ∀ (a : Addr) (x : Nat) (w : World), (store a (.float .f64 x)).run Try.prog w = stored Try.prog w a (.float .f64 x) .plain := fun a x w => run_store _ _ _ _ _ rfl
  go_enter Try.func26, Try.ntmps26
  have k1 := (((BlkL.new w [.int .i64 an, .int .i64 abad, .float .f64 asu, .float .f64 alo, .float .f64 alw, .float .f64 ahi, .float .f64 ame, .float .f64 asp] 31).alloc (.cells #[.int .i64 bn, .int .i64 bbad, .float .f64 bsu, .float .f64 blo, .float .f64 blw, .float .f64 bhi, .float .f64 bme, .float .f64 bsp] 31)).alloc (.cells #[.int .i64 0, .int .i64 0, .float .f64 0, .float .f64 0, .float .f64 0, .float .f64 0, .float .f64 0, .float .f64 0] 31))
  have k2 := ((BlkL.new (w.alloc (.cells #[.int .i64 an, .int .i64 abad, .float .f64 asu, .float .f64 alo, .float .f64 alw, .float .f64 ahi, .float .f64 ame, .float .f64 asp] 31)) [.int .i64 bn, .int .i64 bbad, .float .f64 bsu, .float .f64 blo, .float .f64 blw, .float .f64 bhi, .float .f64 bme, .float .f64 bsp] 31).alloc (.cells #[.int .i64 0, .int .i64 0, .float .f64 0, .float .f64 0, .float .f64 0, .float .f64 0, .float .f64 0, .float .f64 0] 31))
  have k3 := (BlkL.new ((w.alloc (.cells #[.int .i64 an, .int .i64 abad, .float .f64 asu, .float .f64 alo, .float .f64 alw, .float .f64 ahi, .float .f64 ame, .float .f64 asp] 31)).alloc (.cells #[.int .i64 bn, .int .i64 bbad, .float .f64 bsu, .float .f64 blo, .float .f64 blw, .float .f64 bhi, .float .f64 bme, .float .f64 bsp] 31)) [.int .i64 0, .int .i64 0, .float .f64 0, .float .f64 0, .float .f64 0, .float .f64 0, .float .f64 0, .float .f64 0] 31)
  simp only [World.size_alloc] at k2 k3
  have k4 := BlkL.new (((w.alloc (.cells #[.int .i64 an, .int .i64 abad, .float .f64 asu, .float .f64 alo, .float .f64 alw, .float .f64 ahi, .float .f64 ame, .float .f64 asp] 31)).alloc (.cells #[.int .i64 bn, .int .i64 bbad, .float .f64 bsu, .float .f64 blo, .float .f64 blw, .float .f64 bhi, .float .f64 bme, .float .f64 bsp] 31)).alloc (.cells #[.int .i64 0, .int .i64 0, .float .f64 0, .float .f64 0, .float .f64 0, .float .f64 0, .float .f64 0, .float .f64 0] 31)) [.int .i64 an, .int .i64 bn, .int .i64 abad, .int .i64 bbad] 79
  simp only [World.size_alloc] at k4
  have D0 : Hid (DMk w w.heap.size (w.heap.size + 1 + 1 + 1) [.int .i64 an, .int .i64 abad, .float .f64 asu, .float .f64 alo, .float .f64 alw, .float .f64 ahi, .float .f64 ame, .float .f64 asp] [.int .i64 bn, .int .i64 bbad, .float .f64 bsu, .float .f64 blo, .float .f64 blw, .float .f64 bhi, .float .f64 bme, .float .f64 bsp] [.int .i64 0, .int .i64 0, .float .f64 0, .float .f64 0, .float .f64 0, .float .f64 0, .float .f64 0, .float .f64 0] [.int .i64 an, .int .i64 bn, .int .i64 abad, .int .i64 bbad] ((((w.alloc (.cells #[.int .i64 an, .int .i64 abad, .float .f64 asu, .float .f64 alo, .float .f64 alw, .float .f64 ahi, .float .f64 ame, .float .f64 asp] 31)).alloc (.cells #[.int .i64 bn, .int .i64 bbad, .float .f64 bsu, .float .f64 blo, .float .f64 blw, .float .f64 bhi, .float .f64 bme, .float .f64 bsp] 31)).alloc (.cells #[.int .i64 0, .int .i64 0, .float .f64 0, .float .f64 0, .float .f64 0, .float .f64 0, .float .f64 0, .float .f64 0] 31)).alloc (.cells #[.int .i64 an, .int .i64 bn, .int .i64 abad, .int .i64 bbad] 79))) := Lib.hid ⟨k1.alloc _, k2.alloc _, k3.alloc _, k4, ((((Below.refl w.heap.size w).alloc (Nat.le_refl _) _).alloc (by simp) _).alloc (by simp <;> omega) _).alloc (by simp <;> omega) _⟩
  clear k1 k2 k3 k4
  go_wp2
  go_loopw [31] (fun iv wr => ∃ i : Nat, i ≤ 2 ∧ iv = .int .i64 (i : Int) ∧ DMk w w.heap.size (w.heap.size + 1 + 1 + 1) [.int .i64 an, .int .i64 abad, .float .f64 asu, .float .f64 alo, .float .f64 alw, .float .f64 ahi, .float .f64 ame, .float .f64 asp] [.int .i64 bn, .int .i64 bbad, .float .f64 bsu, .float .f64 blo, .float .f64 blw, .float .f64 bhi, .float .f64 bme, .float .f64 bsp] [.int .i64 0, .int .i64 0, .float .f64 0, .float .f64 0, .float .f64 0, .float .f64 0, .float .f64 0, .float .f64 0] [.int .i64 an, .int .i64 bn, .int .i64 abad, .int .i64 bbad] wr) (fun iv _ => 2 - (intOf iv).toNat)
  case atStart => exact ⟨0, by omega, rfl, D0.out⟩
  case round =>
    obtain ⟨i, hi, rfl, D⟩ := hrel
    rcases (by omega : i = 0 ∨ i = 1 ∨ i = 2) with rfl | rfl | rfl
    · have DD := Lib.hid D
      have y0 := D.k4.cell 0 _ rfl
      have y1 := D.k4.cell 1 _ rfl
      have ly := D.k4.lt
      clear D D0
      have lw : w.heap.size ≤ wr.heap.size := DD.out.bel.size
      have g1 : an ≤ 9007199254740992 := by omega
      have g2 : bn ≤ 9007199254740992 := by omega
      have hs : IntKind.i64.wrap (an + bn) = an + bn := IntWalk.i64_in _ (by omega)
      go_wp2
      refine ⟨⟨1, by omega, rfl, DD.out.alloc _⟩, by decide⟩
    · have DD := Lib.hid D
      have y0 := D.k4.cell 2 _ rfl
      have y1 := D.k4.cell 3 _ rfl
      have ly := D.k4.lt
      clear D D0
      have lw : w.heap.size ≤ wr.heap.size := DD.out.bel.size
      have g1 : abad ≤ 9007199254740992 := by omega
      have g2 : bbad ≤ 9007199254740992 := by omega
      have hs : IntKind.i64.wrap (abad + bbad) = abad + bbad := IntWalk.i64_in _ (by omega)
      go_wp2
      refine ⟨⟨2, by omega, rfl, DD.out.alloc _⟩, by decide⟩
    · have DD := Lib.hid D
      have x0 := D.k1.cell 0 _ rfl
      have x1 := D.k1.cell 1 _ rfl
      have x2 := D.k1.cell 2 _ rfl
      have x3 := D.k1.cell 3 _ rfl
      have x4 := D.k1.cell 4 _ rfl
      have x5 := D.k1.cell 5 _ rfl
      have x6 := D.k1.cell 6 _ rfl
      have x7 := D.k1.cell 7 _ rfl
      have y0 := D.k2.cell 0 _ rfl
      have y1 := D.k2.cell 1 _ rfl
      have y2 := D.k2.cell 2 _ rfl
      have y3 := D.k2.cell 3 _ rfl
      have y4 := D.k2.cell 4 _ rfl
      have y5 := D.k2.cell 5 _ rfl
      have y6 := D.k2.cell 6 _ rfl
      have y7 := D.k2.cell 7 _ rfl
      have z0 := D.k3.cell 0 _ rfl
      have z1 := D.k3.cell 1 _ rfl
      have z2 := D.k3.cell 2 _ rfl
      have z3 := D.k3.cell 3 _ rfl
      have z4 := D.k3.cell 4 _ rfl
      have z5 := D.k3.cell 5 _ rfl
      have z6 := D.k3.cell 6 _ rfl
      have z7 := D.k3.cell 7 _ rfl
      have zf0 := D.k3.froz 0 (by simp)
      have zf1 := D.k3.froz 1 (by simp)
      have zf2 := D.k3.froz 2 (by simp)
      have zf3 := D.k3.froz 3 (by simp)
      have zf4 := D.k3.froz 4 (by simp)
      have zf5 := D.k3.froz 5 (by simp)
      have zf6 := D.k3.froz 6 (by simp)
      have zf7 := D.k3.froz 7 (by simp)
      have lx := D.k1.lt
      have ly := D.k2.lt
      have lz := D.k3.lt
      have lw : w.heap.size ≤ wr.heap.size := DD.out.bel.size
      have hs : IntKind.i64.wrap (an + bn) = an + bn := IntWalk.i64_in _ (by omega)
      have hs2 : IntKind.i64.wrap (abad + bbad) = abad + bbad := IntWalk.i64_in _ (by omega)
      clear D D0
      go_wp2_with fail
      refine upon_float rfl ?_
      intro s ks ls cs
      have HF : ∀ w, Calls Try.prog 43 #[.float .f64 s] w fun e w' => e = .returned (.bool bo) ∧ w = w' := fun w => by
        have := fin8_any w s ls
        rw [← fn_can s, cs.out, HF0.out] at this
        exact this
      have HMS := fun w => lost_any w asu bsu s OKA.out.sum OKB.out.sum ls
      rw [cs.out] at HMS
      go_wp2_with fail
      with_reducible refine (HF _).mono ?_
      rintro e w1 ⟨rfl, rfl⟩
      rcases bo with _ | _
      · skip
        go_wp2_with fail
        refine upon_float rfl ?_
        intro p1 kp1 lp1 cp1
        go_wp2_with fail
        refine upon_float rfl ?_
        intro p2 kp2 lp2 cp2
        go_wp2_with fail
        with_reducible refine (HL _).mono ?_
        rintro e w1 ⟨rfl, rfl⟩
        go_wp2_with fail
        with_reducible refine (HH _).mono ?_
        rintro e w1 ⟨rfl, rfl⟩
        go_wp2_with fail
        go_quiet (fail)
        go_wp2_with fail
        refine upon_float rfl ?_
        intro dd kdd ldd cdd
        go_wp2_with fail
        refine upon_float rfl ?_
        intro sh ksh lsh csh
        go_wp2_with fail
        refine upon_float rfl ?_
        intro mu kmu lmu cmu
        go_wp2_with fail
        refine upon_float rfl ?_
        intro me2 kme2 lme2 cme2
        go_wp2_with fail
        refine upon_float rfl ?_
        intro sq ksq lsq csq
        go_wp2_with fail
        refine upon_float rfl ?_
        intro nk knk lnk cnk
        go_wp2_with fail
        refine upon_float rfl ?_
        intro wt kwt lwt cwt
        go_wp2_with fail
        refine upon_float rfl ?_
        intro sp1 ksp1 lsp1 csp1
        go_wp2_with fail
        refine upon_float rfl ?_
        intro pr kpr lpr cpr
        go_wp2_with fail
        refine upon_float rfl ?_
        intro sp2 ksp2 lsp2 csp2
        go_wp2
        have K4 := blk_put8 (((((((((((DD.out.k3.alloc (.cells #[.int .i64 (an + bn), .int .i64 (abad + bbad), .float .f64 0, .float .f64 0, .float .f64 0, .float .f64 0, .float .f64 0, .float .f64 0] 31)).drewN ks).other wr.heap.size 2 (.float .f64 s) (by omega)).drewN (kp1 + kp2)).other wr.heap.size 3 (.float .f64 p2) (by omega)).other wr.heap.size 4 (.float .f64 rl) (by omega)).other wr.heap.size 5 (.float .f64 rh) (by omega)).drewN (nq + kdd + ksh + kmu + kme2)).other wr.heap.size 6 (.float .f64 me2) (by omega)).drewN (ksq + knk + kwt + ksp1 + kpr + ksp2)).other wr.heap.size 7 (.float .f64 sp2) (by omega)) (.int .i64 (an + bn)) (.int .i64 (abad + bbad)) (.float .f64 s) (.float .f64 p2) (.float .f64 rl) (.float .f64 rh) (.float .f64 me2) (.float .f64 sp2)
        have q0 := K4.cell 0 _ rfl
        have q1 := K4.cell 1 _ rfl
        have q2 := K4.cell 2 _ rfl
        have q3 := K4.cell 3 _ rfl
        have q4 := K4.cell 4 _ rfl
        have q5 := K4.cell 5 _ rfl
        have q6 := K4.cell 6 _ rfl
        have q7 := K4.cell 7 _ rfl
        refine bodyPost_ret (v := .tuple #[MV.val ⟨an + bn, abad + bbad, s, p2, rl, rh, me2, sp2⟩, .int .i64 0]) (by simp [results, Try.results26, go_sem, MV.val, q0, q1, q2, q3, q4, q5, q6, q7]) rfl ⟨⟨an + bn, abad + bbad, s, p2, rl, rh, me2, sp2⟩, rfl, ⟨ls, lp2, hrl, hrh, lme2, lsp2⟩, ?_, ?_⟩
        · unfold mrgC
          simp only [MV.can, HF0.out, cs.out, CRL.out, CRH.out, cp1.out, cp2.out, cdd.out, csh.out, cmu.out, cme2.out, csp1.out, csq.out, cnk.out, cwt.out, cpr.out, csp2.out]
          try rfl
        · repeat' first
            | with_reducible exact DD.out.bel
            | with_reducible exact DD.out.bel.alloc lw _
            | with_reducible refine Below.setCell ?_ (by simp <;> omega) _
            | with_reducible refine Below.alloc ?_ (by simp <;> omega) _
            | with_reducible refine below_drewN ?_ _
            | with_reducible refine Below.drew ?_
      · skip
        go_wp2_with fail
        with_reducible refine (HMS _).mono ?_
        rintro e w2 ⟨g, rfl, lg, cg, kg, rfl⟩
        have CG := Lib.hid cg
        clear cg
        go_wp2_with fail
        refine upon_float rfl ?_
        intro p1 kp1 lp1 cp1
        go_wp2_with fail
        refine upon_float rfl ?_
        intro p2 kp2 lp2 cp2
        go_wp2_with fail
        with_reducible refine (HL _).mono ?_
        rintro e w1 ⟨rfl, rfl⟩
        go_wp2_with fail
        with_reducible refine (HH _).mono ?_
        rintro e w1 ⟨rfl, rfl⟩
        go_wp2_with fail
        go_quiet (fail)
        go_wp2_with fail
        refine upon_float rfl ?_
        intro dd kdd ldd cdd
        go_wp2_with fail
        refine upon_float rfl ?_
        intro sh ksh lsh csh
        go_wp2_with fail
        refine upon_float rfl ?_
        intro mu kmu lmu cmu
        go_wp2_with fail
        refine upon_float rfl ?_
        intro me2 kme2 lme2 cme2
        go_wp2_with fail
        refine upon_float rfl ?_
        intro sq ksq lsq csq
        go_wp2_with fail
        refine upon_float rfl ?_
        intro nk knk lnk cnk
        go_wp2_with fail
        refine upon_float rfl ?_
        intro wt kwt lwt cwt
        go_wp2_with fail
        refine upon_float rfl ?_
        intro sp1 ksp1 lsp1 csp1
        go_wp2_with fail
        refine upon_float rfl ?_
        intro pr kpr lpr cpr
        go_wp2_with fail
        refine upon_float rfl ?_
        intro sp2 ksp2 lsp2 csp2
        go_wp2
        have K4 := blk_put8 (((((((((((DD.out.k3.alloc (.cells #[.int .i64 (an + bn), .int .i64 (abad + bbad), .float .f64 0, .float .f64 0, .float .f64 0, .float .f64 0, .float .f64 0, .float .f64 0] 31)).drewN ks).other wr.heap.size 2 (.float .f64 s) (by omega)).drewN (kg + kp1 + kp2)).other wr.heap.size 3 (.float .f64 p2) (by omega)).other wr.heap.size 4 (.float .f64 rl) (by omega)).other wr.heap.size 5 (.float .f64 rh) (by omega)).drewN (nq + kdd + ksh + kmu + kme2)).other wr.heap.size 6 (.float .f64 me2) (by omega)).drewN (ksq + knk + kwt + ksp1 + kpr + ksp2)).other wr.heap.size 7 (.float .f64 sp2) (by omega)) (.int .i64 (an + bn)) (.int .i64 (abad + bbad)) (.float .f64 s) (.float .f64 p2) (.float .f64 rl) (.float .f64 rh) (.float .f64 me2) (.float .f64 sp2)
        have q0 := K4.cell 0 _ rfl
        have q1 := K4.cell 1 _ rfl
        have q2 := K4.cell 2 _ rfl
        have q3 := K4.cell 3 _ rfl
        have q4 := K4.cell 4 _ rfl
        have q5 := K4.cell 5 _ rfl
        have q6 := K4.cell 6 _ rfl
        have q7 := K4.cell 7 _ rfl
        refine bodyPost_ret (v := .tuple #[MV.val ⟨an + bn, abad + bbad, s, p2, rl, rh, me2, sp2⟩, .int .i64 0]) (by simp [results, Try.results26, go_sem, MV.val, q0, q1, q2, q3, q4, q5, q6, q7]) rfl ⟨⟨an + bn, abad + bbad, s, p2, rl, rh, me2, sp2⟩, rfl, ⟨ls, lp2, hrl, hrh, lme2, lsp2⟩, ?_, ?_⟩
        · unfold mrgC
          simp only [MV.can, HF0.out, cs.out, CRL.out, CRH.out, cp1.out, cp2.out, CG.out, cdd.out, csh.out, cmu.out, cme2.out, csp1.out, csq.out, cnk.out, cwt.out, cpr.out, csp2.out]
          try rfl
        · repeat' first
            | with_reducible exact DD.out.bel
            | with_reducible exact DD.out.bel.alloc lw _
            | with_reducible refine Below.setCell ?_ (by simp <;> omega) _
            | with_reducible refine Below.alloc ?_ (by simp <;> omega) _
            | with_reducible refine below_drewN ?_ _
            | with_reducible refine Below.drew ?_
end Go.Proofs.Ytffibfnagoagcaa
