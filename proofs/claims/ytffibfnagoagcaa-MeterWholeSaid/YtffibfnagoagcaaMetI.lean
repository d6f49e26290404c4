/- Contract: meter.Merge where the counts are good. -/
import Derived.Test.YtffibfnagoagcaaMetH
import Derived.Test.YtffibfnagoagcaaMetN
namespace Go.Proofs.Ytffibfnagoagcaa
open Go.RowKit
set_option maxRecDepth 100000
set_option linter.unusedVariables false

theorem figs_any (w : World) (a b : MV) (oka : a.Ok) (okb : b.Ok) (hn : 0 ≤ a.n ∧ 0 ≤ b.n ∧ a.n + b.n ≤ 9007199254740992) :
    Calls Try.prog 50 #[a.val, b.val] w fun e w' => ∃ m : MV, e = .returned m.val ∧ m.Ok ∧ m.can = figC a.can b.can ∧ Below w.heap.size w w' := by
  by_cases h0 : a.n = 0
  · refine (figs_a0 w a b h0).mono fun e w' ⟨h1, h2⟩ => ⟨b, h1, okb, ?_, h2⟩
    unfold figC
    exact (if_pos h0).symm
  · by_cases h1 : b.n = 0
    · refine (figs_b0 w a b h0 h1).mono fun e w' ⟨h3, h2⟩ => ⟨a, h3, oka, ?_, h2⟩
      unfold figC
      exact ((if_neg h0).trans (if_pos h1)).symm
    · have e : figC a.can b.can = mrgC a.can b.can := by
        unfold figC
        exact (if_neg h0).trans (if_neg h1)
      rw [e]
      rcases hs : floatBits .add .f64 a.sum b.sum with _ | s
      · exact figs_nan w a b oka okb h0 h1 hn _ rfl hs
      · exact figs_both w a b oka okb h0 h1 hn _ rfl s hs
set_option maxHeartbeats 3200000 in
theorem mergeP_ok (w : World) (a b : MV) (oka : a.Ok) (okb : b.Ok) (hb : cntsB a b = true) :
    Calls Try.prog 25 #[a.val, b.val] w fun e w' => ∃ m : MV, e = .returned (.tuple #[m.val, .int .i64 0]) ∧ m.Ok ∧ m.can = { figC a.can b.can with n := a.n + b.n, bad := a.bad + b.bad } ∧ Below w.heap.size w w' := by
  unfold cntsB at hb
  rw [Bool.and_eq_true] at hb
  obtain ⟨hc1, hc2⟩ := hb
  have c1 := cntB_iff.mp hc1
  have c2 := cntB_iff.mp hc2
  have H1 := fun w => areCounts_any w a.n b.n (by omega)
  have H2 := fun w => areCounts_any w a.bad b.bad (by omega)
  rw [hc1] at H1
  rw [hc2] at H2
  have HFG := Lib.hid (fun w => figs_any w a b oka okb c1)
  clear hc1 hc2 oka okb
  obtain ⟨an, abad, asu, alo, alw, ahi, ame, asp⟩ := a
  obtain ⟨bn, bbad, bsu, blo, blw, bhi, bme, bsp⟩ := b
  simp only at c1 c2
  obtain ⟨n0, n1, n2⟩ := c1
  obtain ⟨b0, b1, b2⟩ := c2
  generalize hfc : figC (MV.can ⟨an, abad, asu, alo, alw, ahi, ame, asp⟩) (MV.can ⟨bn, bbad, bsu, blo, blw, bhi, bme, bsp⟩) = fc at *
  simp only at H1 H2
  have HFG2 : Hid (∀ w, Calls Try.prog 50 #[.agg #[.int .i64 an, .int .i64 abad, .float .f64 asu, .float .f64 alo, .float .f64 alw, .float .f64 ahi, .float .f64 ame, .float .f64 asp], .agg #[.int .i64 bn, .int .i64 bbad, .float .f64 bsu, .float .f64 blo, .float .f64 blw, .float .f64 bhi, .float .f64 bme, .float .f64 bsp]] w fun e w' => ∃ m : MV, e = .returned m.val ∧ m.Ok ∧ m.can = fc ∧ Below w.heap.size w w') := HFG
  clear HFG hfc
  have kst : ∀ (a : Addr) (x : Nat) (w : World), (store a (.float .f64 x)).run Try.prog w = stored Try.prog w a (.float .f64 x) .plain := fun a x w => run_store _ _ _ _ _ rfl
  show Calls _ _ #[.agg #[.int .i64 an, .int .i64 abad, .float .f64 asu, .float .f64 alo, .float .f64 alw, .float .f64 ahi, .float .f64 ame, .float .f64 asp], .agg #[.int .i64 bn, .int .i64 bbad, .float .f64 bsu, .float .f64 blo, .float .f64 blw, .float .f64 bhi, .float .f64 bme, .float .f64 bsp]] w _
  have K1 := Lib.hid (((BlkL.new w [.int .i64 an, .int .i64 abad, .float .f64 asu, .float .f64 alo, .float .f64 alw, .float .f64 ahi, .float .f64 ame, .float .f64 asp] 29).alloc (.cells #[.int .i64 bn, .int .i64 bbad, .float .f64 bsu, .float .f64 blo, .float .f64 blw, .float .f64 bhi, .float .f64 bme, .float .f64 bsp] 29)).alloc (.cells #[.int .i64 0, .int .i64 0, .float .f64 0, .float .f64 0, .float .f64 0, .float .f64 0, .float .f64 0, .float .f64 0] 29))
  have k2 := (BlkL.new (w.alloc (.cells #[.int .i64 an, .int .i64 abad, .float .f64 asu, .float .f64 alo, .float .f64 alw, .float .f64 ahi, .float .f64 ame, .float .f64 asp] 29)) [.int .i64 bn, .int .i64 bbad, .float .f64 bsu, .float .f64 blo, .float .f64 blw, .float .f64 bhi, .float .f64 bme, .float .f64 bsp] 29).alloc (.cells #[.int .i64 0, .int .i64 0, .float .f64 0, .float .f64 0, .float .f64 0, .float .f64 0, .float .f64 0, .float .f64 0] 29)
  have k3 := BlkL.new ((w.alloc (.cells #[.int .i64 an, .int .i64 abad, .float .f64 asu, .float .f64 alo, .float .f64 alw, .float .f64 ahi, .float .f64 ame, .float .f64 asp] 29)).alloc (.cells #[.int .i64 bn, .int .i64 bbad, .float .f64 bsu, .float .f64 blo, .float .f64 blw, .float .f64 bhi, .float .f64 bme, .float .f64 bsp] 29)) [.int .i64 0, .int .i64 0, .float .f64 0, .float .f64 0, .float .f64 0, .float .f64 0, .float .f64 0, .float .f64 0] 29
  simp only [World.size_alloc] at k2 k3
  have K2 := Lib.hid k2
  have K3 := Lib.hid k3
  have HB := Lib.hid ((((Below.refl w.heap.size w).alloc (Nat.le_refl _) (.cells #[.int .i64 an, .int .i64 abad, .float .f64 asu, .float .f64 alo, .float .f64 alw, .float .f64 ahi, .float .f64 ame, .float .f64 asp] 29)).alloc (by simp) (.cells #[.int .i64 bn, .int .i64 bbad, .float .f64 bsu, .float .f64 blo, .float .f64 blw, .float .f64 bhi, .float .f64 bme, .float .f64 bsp] 29)).alloc (by simp; omega) (.cells #[.int .i64 0, .int .i64 0, .float .f64 0, .float .f64 0, .float .f64 0, .float .f64 0, .float .f64 0, .float .f64 0] 29))
  clear k2 k3
  go_enter Try.func25, Try.ntmps25
  go_wp2_with fail
  with_reducible refine (H1 _).mono ?_
  rintro e w1 ⟨rfl, rfl⟩
  go_wp2_with fail
  with_reducible refine (H2 _).mono ?_
  rintro e w1 ⟨rfl, rfl⟩
  go_wp2_with fail
  with_reducible refine (HFG2.out _).mono ?_
  rintro e w5 ⟨m, rfl, okm, cm, hb5⟩
  obtain ⟨mn, mbad, msu, mlo, mlw, mhi, mme, msp⟩ := m
  simp only [MV.val]
  have k1 := K1.out.below hb5
  have k2 := K2.out.below hb5
  have k3 := K3.out.below hb5
  have HB5 := Lib.hid (HB.out.trans (hb5.mono HB.out.size))
  have CM := Lib.hid cm
  have OKM := Lib.hid okm
  clear hb5 K1 K2 K3 HB cm okm
  have x0 := k1.cell 0 _ rfl
  have x1 := k1.cell 1 _ rfl
  have y0 := k2.cell 0 _ rfl
  have y1 := k2.cell 1 _ rfl
  have z0 := k3.cell 0 _ rfl
  have zf0 := k3.froz 0 (by simp)
  have z1 := k3.cell 1 _ rfl
  have zf1 := k3.froz 1 (by simp)
  have z2 := k3.cell 2 _ rfl
  have zf2 := k3.froz 2 (by simp)
  have z3 := k3.cell 3 _ rfl
  have zf3 := k3.froz 3 (by simp)
  have z4 := k3.cell 4 _ rfl
  have zf4 := k3.froz 4 (by simp)
  have z5 := k3.cell 5 _ rfl
  have zf5 := k3.froz 5 (by simp)
  have z6 := k3.cell 6 _ rfl
  have zf6 := k3.froz 6 (by simp)
  have z7 := k3.cell 7 _ rfl
  have zf7 := k3.froz 7 (by simp)
  have lx := k1.lt
  have ly := k2.lt
  have lz := k3.lt
  have K3 := Lib.hid k3
  clear k1 k2 k3
  go_wp2
  go_region
  go_wp2
  have K4 := ((blk_put8 K3.out (.int .i64 (an + bn)) (.int .i64 (abad + bbad)) (.float .f64 msu) (.float .f64 mlo) (.float .f64 mlw) (.float .f64 mhi) (.float .f64 mme) (.float .f64 msp)).alloc (.cells #[.int .i64 (an + bn), .int .i64 (abad + bbad), .float .f64 msu, .float .f64 mlo, .float .f64 mlw, .float .f64 mhi, .float .f64 mme, .float .f64 msp] 29)).drew
  have q0 := K4.cell 0 _ rfl
  have q1 := K4.cell 1 _ rfl
  have q2 := K4.cell 2 _ rfl
  have q3 := K4.cell 3 _ rfl
  have q4 := K4.cell 4 _ rfl
  have q5 := K4.cell 5 _ rfl
  have q6 := K4.cell 6 _ rfl
  have q7 := K4.cell 7 _ rfl
  refine bodyPost_ret (v := .tuple #[MV.val ⟨an + bn, abad + bbad, msu, mlo, mlw, mhi, mme, msp⟩, .int .i64 0]) (by simp [results, Try.results25, go_sem, MV.val, q0, q1, q2, q3, q4, q5, q6, q7]) rfl ⟨⟨an + bn, abad + bbad, msu, mlo, mlw, mhi, mme, msp⟩, rfl, ?_, ?_, ?_⟩
  · exact ⟨OKM.out.sum, OKM.out.lost, OKM.out.low, OKM.out.high, OKM.out.mean, OKM.out.spr⟩
  · rw [← CM.out]
    rfl
  · repeat' first
      | with_reducible exact HB5.out
      | with_reducible refine Below.setCell ?_ (by simp <;> omega) _
      | with_reducible refine Below.alloc ?_ (by have := HB5.out.size; simp <;> omega) _
      | with_reducible refine Below.drew ?_
theorem mergeP_any (w : World) (a b : MV) (oka : a.Ok) (okb : b.Ok) (hk : b.n ≤ 9223372036854775807) (hk2 : b.bad ≤ 9223372036854775807) :
    Calls Try.prog 25 #[a.val, b.val] w fun e w' => ∃ m : MV, e = .returned (.tuple #[m.val, .int .i64 (mergeE a b)]) ∧ m.Ok ∧ m.can = mergeC2 a b ∧ Below w.heap.size w w' := by
  rcases h : cntsB a b with _ | _
  · refine (mergeP_bad w a b hk hk2 h).mono fun e w' ⟨h1, h2⟩ => ⟨zeroM, ?_, zeroM_ok, ?_, h2⟩
    · rw [h1]; unfold mergeE; rw [h]; rfl
    · unfold mergeC2; rw [h]; rfl
  · refine (mergeP_ok w a b oka okb h).mono fun e w' ⟨m, h1, h2, h3, h4⟩ => ⟨m, ?_, h2, ?_, h4⟩
    · rw [h1]; unfold mergeE; rw [h]; rfl
    · unfold mergeC2; rw [h3, h]; rfl
end Go.Proofs.Ytffibfnagoagcaa
