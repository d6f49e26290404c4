/- Contract: the document's DocMerge where the counts are good and one of the meters has no numbers. -/
import Derived.Test.YtffibfnagoagcaaMetJ
namespace Go.Proofs.Ytffibfnagoagcaa
open Go.RowKit
set_option maxRecDepth 100000
set_option linter.unusedVariables false

set_option maxHeartbeats 6400000 in
theorem mergeD_one (w : World) (a b : MV) (oka : a.Ok) (okb : b.Ok) (hb : cntsB a b = true) (h01 : a.n = 0 ∨ b.n = 0) :
    Calls Try.prog 26 #[a.val, b.val] w fun e w' => ∃ m : MV, e = .returned (.tuple #[m.val, .int .i64 0]) ∧ m.Ok ∧ m.can = { figC a.can b.can with n := a.n + b.n, bad := a.bad + b.bad } ∧ Below w.heap.size w w' := by
  unfold cntsB at hb
  rw [Bool.and_eq_true] at hb
  obtain ⟨hc1, hc2⟩ := hb
  have c1 := cntB_iff.mp hc1
  have c2 := cntB_iff.mp hc2
  clear hc1 hc2
  obtain ⟨an, abad, asu, alo, alw, ahi, ame, asp⟩ := a
  obtain ⟨bn, bbad, bsu, blo, blw, bhi, bme, bsp⟩ := b
  simp only at c1 c2
  obtain ⟨n0, n1, n2⟩ := c1
  obtain ⟨b0, b1, b2⟩ := c2
  have OKA := Lib.hid oka
  have OKB := Lib.hid okb
  clear oka okb
  simp only [MV.val] at *
  have kst : ∀ (a : Addr) (x : Nat) (w : World), (store a (.float .f64 x)).run Try.prog w = stored Try.prog w a (.float .f64 x) .plain := fun a x w => run_store _ _ _ _ _ rfl
  go_enter Try.func26, Try.ntmps26
  have k1 := (((BlkL.new w [.int .i64 an, .int .i64 abad, .float .f64 asu, .float .f64 alo, .float .f64 alw, .float .f64 ahi, .float .f64 ame, .float .f64 asp] 31).alloc (.cells #[.int .i64 bn, .int .i64 bbad, .float .f64 bsu, .float .f64 blo, .float .f64 blw, .float .f64 bhi, .float .f64 bme, .float .f64 bsp] 31)).alloc (.cells #[.int .i64 0, .int .i64 0, .float .f64 0, .float .f64 0, .float .f64 0, .float .f64 0, .float .f64 0, .float .f64 0] 31))
  have k2 := ((BlkL.new (w.alloc (.cells #[.int .i64 an, .int .i64 abad, .float .f64 asu, .float .f64 alo, .float .f64 alw, .float .f64 ahi, .float .f64 ame, .float .f64 asp] 31)) [.int .i64 bn, .int .i64 bbad, .float .f64 bsu, .float .f64 blo, .float .f64 blw, .float .f64 bhi, .float .f64 bme, .float .f64 bsp] 31).alloc (.cells #[.int .i64 0, .int .i64 0, .float .f64 0, .float .f64 0, .float .f64 0, .float .f64 0, .float .f64 0, .float .f64 0] 31))
  have k3 := (BlkL.new ((w.alloc (.cells #[.int .i64 an, .int .i64 abad, .float .f64 asu, .float .f64 alo, .float .f64 alw, .float .f64 ahi, .float .f64 ame, .float .f64 asp] 31)).alloc (.cells #[.int .i64 bn, .int .i64 bbad, .float .f64 bsu, .float .f64 blo, .float .f64 blw, .float .f64 bhi, .float .f64 bme, .float .f64 bsp] 31)) [.int .i64 0, .int .i64 0, .float .f64 0, .float .f64 0, .float .f64 0, .float .f64 0, .float .f64 0, .float .f64 0] 31)
  simp only [World.size_alloc] at k2 k3
  have k4 := BlkL.new (((w.alloc (.cells #[.int .i64 an, .int .i64 abad, .float .f64 asu, .float .f64 alo, .float .f64 alw, .float .f64 ahi, .float .f64 ame, .float .f64 asp] 31)).alloc (.cells #[.int .i64 bn, .int .i64 bbad, .float .f64 bsu, .float .f64 blo, .float .f64 blw, .float .f64 bhi, .float .f64 bme, .float .f64 bsp] 31)).alloc (.cells #[.int .i64 0, .int .i64 0, .float .f64 0, .float .f64 0, .float .f64 0, .float .f64 0, .float .f64 0, .float .f64 0] 31)) [.int .i64 an, .int .i64 bn, .int .i64 abad, .int .i64 bbad] 79
  simp only [World.size_alloc] at k4
  have D0 : Hid (DMk w w.heap.size (w.heap.size + 1 + 1 + 1) [.int .i64 an, .int .i64 abad, .float .f64 asu, .float .f64 alo, .float .f64 alw, .float .f64 ahi, .float .f64 ame, .float .f64 asp] [.int .i64 bn, .int .i64 bbad, .float .f64 bsu, .float .f64 blo, .float .f64 blw, .float .f64 bhi, .float .f64 bme, .float .f64 bsp] [.int .i64 0, .int .i64 0, .float .f64 0, .float .f64 0, .float .f64 0, .float .f64 0, .float .f64 0, .float .f64 0] [.int .i64 an, .int .i64 bn, .int .i64 abad, .int .i64 bbad] ((((w.alloc (.cells #[.int .i64 an, .int .i64 abad, .float .f64 asu, .float .f64 alo, .float .f64 alw, .float .f64 ahi, .float .f64 ame, .float .f64 asp] 31)).alloc (.cells #[.int .i64 bn, .int .i64 bbad, .float .f64 bsu, .float .f64 blo, .float .f64 blw, .float .f64 bhi, .float .f64 bme, .float .f64 bsp] 31)).alloc (.cells #[.int .i64 0, .int .i64 0, .float .f64 0, .float .f64 0, .float .f64 0, .float .f64 0, .float .f64 0, .float .f64 0] 31)).alloc (.cells #[.int .i64 an, .int .i64 bn, .int .i64 abad, .int .i64 bbad] 79))) := Lib.hid ⟨k1.alloc _, k2.alloc _, k3.alloc _, k4, ((((Below.refl w.heap.size w).alloc (Nat.le_refl _) _).alloc (by simp) _).alloc (by simp <;> omega) _).alloc (by simp <;> omega) _⟩
  clear k1 k2 k3 k4
  go_wp2
  go_loopw [31] (fun iv wr => ∃ i : Nat, i ≤ 2 ∧ iv = .int .i64 (i : Int) ∧ DMk w w.heap.size (w.heap.size + 1 + 1 + 1) [.int .i64 an, .int .i64 abad, .float .f64 asu, .float .f64 alo, .float .f64 alw, .float .f64 ahi, .float .f64 ame, .float .f64 asp] [.int .i64 bn, .int .i64 bbad, .float .f64 bsu, .float .f64 blo, .float .f64 blw, .float .f64 bhi, .float .f64 bme, .float .f64 bsp] [.int .i64 0, .int .i64 0, .float .f64 0, .float .f64 0, .float .f64 0, .float .f64 0, .float .f64 0, .float .f64 0] [.int .i64 an, .int .i64 bn, .int .i64 abad, .int .i64 bbad] wr) (fun iv _ => 2 - (intOf iv).toNat)
  case atStart => exact ⟨0, by omega, rfl, D0.out⟩
  case round =>
    obtain ⟨i, hi, rfl, D⟩ := hrel
    rcases (by omega : i = 0 ∨ i = 1 ∨ i = 2) with rfl | rfl | rfl
    · have DD := Lib.hid D
      have y0 := D.k4.cell 0 _ rfl
      have y1 := D.k4.cell 1 _ rfl
      have ly := D.k4.lt
      clear D D0
      have lw : w.heap.size ≤ wr.heap.size := DD.out.bel.size
      have g1 : an ≤ 9007199254740992 := by omega
      have g2 : bn ≤ 9007199254740992 := by omega
      have hs : IntKind.i64.wrap (an + bn) = an + bn := IntWalk.i64_in _ (by omega)
      go_wp2
      refine ⟨⟨1, by omega, rfl, DD.out.alloc _⟩, by decide⟩
    · have DD := Lib.hid D
      have y0 := D.k4.cell 2 _ rfl
      have y1 := D.k4.cell 3 _ rfl
      have ly := D.k4.lt
      clear D D0
      have lw : w.heap.size ≤ wr.heap.size := DD.out.bel.size
      have g1 : abad ≤ 9007199254740992 := by omega
      have g2 : bbad ≤ 9007199254740992 := by omega
      have hs : IntKind.i64.wrap (abad + bbad) = abad + bbad := IntWalk.i64_in _ (by omega)
      go_wp2
      refine ⟨⟨2, by omega, rfl, DD.out.alloc _⟩, by decide⟩
    · have DD := Lib.hid D
      have x0 := D.k1.cell 0 _ rfl
      have x1 := D.k1.cell 1 _ rfl
      have x2 := D.k1.cell 2 _ rfl
      have x3 := D.k1.cell 3 _ rfl
      have x4 := D.k1.cell 4 _ rfl
      have x5 := D.k1.cell 5 _ rfl
      have x6 := D.k1.cell 6 _ rfl
      have x7 := D.k1.cell 7 _ rfl
      have y0 := D.k2.cell 0 _ rfl
      have y1 := D.k2.cell 1 _ rfl
      have y2 := D.k2.cell 2 _ rfl
      have y3 := D.k2.cell 3 _ rfl
      have y4 := D.k2.cell 4 _ rfl
      have y5 := D.k2.cell 5 _ rfl
      have y6 := D.k2.cell 6 _ rfl
      have y7 := D.k2.cell 7 _ rfl
      have z0 := D.k3.cell 0 _ rfl
      have z1 := D.k3.cell 1 _ rfl
      have z2 := D.k3.cell 2 _ rfl
      have z3 := D.k3.cell 3 _ rfl
      have z4 := D.k3.cell 4 _ rfl
      have z5 := D.k3.cell 5 _ rfl
      have z6 := D.k3.cell 6 _ rfl
      have z7 := D.k3.cell 7 _ rfl
      have zf0 := D.k3.froz 0 (by simp)
      have zf1 := D.k3.froz 1 (by simp)
      have zf2 := D.k3.froz 2 (by simp)
      have zf3 := D.k3.froz 3 (by simp)
      have zf4 := D.k3.froz 4 (by simp)
      have zf5 := D.k3.froz 5 (by simp)
      have zf6 := D.k3.froz 6 (by simp)
      have zf7 := D.k3.froz 7 (by simp)
      have lx := D.k1.lt
      have ly := D.k2.lt
      have lz := D.k3.lt
      have lw : w.heap.size ≤ wr.heap.size := DD.out.bel.size
      have hs : IntKind.i64.wrap (an + bn) = an + bn := IntWalk.i64_in _ (by omega)
      have hs2 : IntKind.i64.wrap (abad + bbad) = abad + bbad := IntWalk.i64_in _ (by omega)
      clear D D0
      by_cases h0 : an = 0
      · subst h0
        go_wp2
        go_region
        go_wp2
        have K4 := (((blk_put8 DD.out.k3 (.int .i64 bn) (.int .i64 (abad + bbad)) (.float .f64 bsu) (.float .f64 blo) (.float .f64 blw) (.float .f64 bhi) (.float .f64 bme) (.float .f64 bsp)).alloc (.cells #[.int .i64 bn, .int .i64 (abad + bbad), .float .f64 0, .float .f64 0, .float .f64 0, .float .f64 0, .float .f64 0, .float .f64 0] 31)).alloc (.cells #[.int .i64 bn, .int .i64 (abad + bbad), .float .f64 bsu, .float .f64 blo, .float .f64 blw, .float .f64 bhi, .float .f64 bme, .float .f64 bsp] 31)).drew
        have q0 := K4.cell 0 _ rfl
        have q1 := K4.cell 1 _ rfl
        have q2 := K4.cell 2 _ rfl
        have q3 := K4.cell 3 _ rfl
        have q4 := K4.cell 4 _ rfl
        have q5 := K4.cell 5 _ rfl
        have q6 := K4.cell 6 _ rfl
        have q7 := K4.cell 7 _ rfl
        refine bodyPost_ret (v := .tuple #[MV.val ⟨bn, abad + bbad, bsu, blo, blw, bhi, bme, bsp⟩, .int .i64 0]) (by simp [results, Try.results26, go_sem, MV.val, q0, q1, q2, q3, q4, q5, q6, q7]) rfl ⟨⟨bn, abad + bbad, bsu, blo, blw, bhi, bme, bsp⟩, rfl, ⟨OKB.out.sum, OKB.out.lost, OKB.out.low, OKB.out.high, OKB.out.mean, OKB.out.spr⟩, ?_, ?_⟩
        · unfold figC MV.can; simp
        repeat' first
          | with_reducible exact DD.out.bel
          | with_reducible refine Below.setCell ?_ (by simp <;> omega) _
          | with_reducible refine Below.alloc ?_ (by simp <;> omega) _
          | with_reducible refine Below.drew ?_
      · by_cases h1 : bn = 0
        · subst h1
          go_wp2
          go_region
          go_wp2
          have K4 := (((blk_put8 DD.out.k3 (.int .i64 an) (.int .i64 (abad + bbad)) (.float .f64 asu) (.float .f64 alo) (.float .f64 alw) (.float .f64 ahi) (.float .f64 ame) (.float .f64 asp)).alloc (.cells #[.int .i64 an, .int .i64 (abad + bbad), .float .f64 0, .float .f64 0, .float .f64 0, .float .f64 0, .float .f64 0, .float .f64 0] 31)).alloc (.cells #[.int .i64 an, .int .i64 (abad + bbad), .float .f64 asu, .float .f64 alo, .float .f64 alw, .float .f64 ahi, .float .f64 ame, .float .f64 asp] 31)).drew
          have q0 := K4.cell 0 _ rfl
          have q1 := K4.cell 1 _ rfl
          have q2 := K4.cell 2 _ rfl
          have q3 := K4.cell 3 _ rfl
          have q4 := K4.cell 4 _ rfl
          have q5 := K4.cell 5 _ rfl
          have q6 := K4.cell 6 _ rfl
          have q7 := K4.cell 7 _ rfl
          refine bodyPost_ret (v := .tuple #[MV.val ⟨an, abad + bbad, asu, alo, alw, ahi, ame, asp⟩, .int .i64 0]) (by simp [results, Try.results26, go_sem, MV.val, q0, q1, q2, q3, q4, q5, q6, q7]) rfl ⟨⟨an, abad + bbad, asu, alo, alw, ahi, ame, asp⟩, rfl, ⟨OKA.out.sum, OKA.out.lost, OKA.out.low, OKA.out.high, OKA.out.mean, OKA.out.spr⟩, ?_, ?_⟩
          · unfold figC MV.can; simp [h0]
          repeat' first
            | with_reducible exact DD.out.bel
            | with_reducible refine Below.setCell ?_ (by simp <;> omega) _
            | with_reducible refine Below.alloc ?_ (by simp <;> omega) _
            | with_reducible refine Below.drew ?_
        · exact absurd h01 (by simp [h0, h1])
end Go.Proofs.Ytffibfnagoagcaa
