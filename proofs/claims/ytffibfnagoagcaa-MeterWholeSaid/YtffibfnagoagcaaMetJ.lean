/- Contract: the document's DocMerge. -/
import Derived.Test.YtffibfnagoagcaaMetN
import Derived.Test.YtffibfnagoagcaaMetE
namespace Go.Proofs.Ytffibfnagoagcaa
open Go.RowKit
set_option maxRecDepth 100000
set_option linter.unusedVariables false

/-- What the loop over the counts keeps: both meters, the answer's block, the counts. -/
structure DMk (w : World) (z q : Nat) (XA XB ZZ CC : List Value) (W : World) : Prop where
  k1 : BlkL W z XA
  k2 : BlkL W (z + 1) XB
  k3 : BlkL W (z + 1 + 1) ZZ
  k4 : BlkL W q CC
  bel : Below w.heap.size w W
theorem DMk.alloc {w : World} {z q : Nat} {XA XB ZZ CC : List Value} {W : World} (h : DMk w z q XA XB ZZ CC W) (o : Obj) : DMk w z q XA XB ZZ CC (W.alloc o) := ⟨h.k1.alloc o, h.k2.alloc o, h.k3.alloc o, h.k4.alloc o, h.bel.alloc h.bel.size o⟩
set_option maxHeartbeats 6400000 in
theorem mergeD_bad (w : World) (a b : MV) (hna : -9223372036854775808 ≤ a.n ∧ a.n ≤ 9223372036854775807) (hnb : -9223372036854775808 ≤ b.n ∧ b.n ≤ 9223372036854775807) (hba : -9223372036854775808 ≤ a.bad ∧ a.bad ≤ 9223372036854775807) (hbb : -9223372036854775808 ≤ b.bad ∧ b.bad ≤ 9223372036854775807) (hb : cntsB a b = false) :
    Calls Try.prog 26 #[a.val, b.val] w fun e w' => e = .returned (.tuple #[zeroM.val, .int .i64 1]) ∧ Below w.heap.size w w' := by
  obtain ⟨an, abad, asu, alo, alw, ahi, ame, asp⟩ := a
  obtain ⟨bn, bbad, bsu, blo, blw, bhi, bme, bsp⟩ := b
  unfold cntsB at hb
  simp only [MV.val] at *
  have kst : ∀ (a : Addr) (x : Nat) (w : World), (store a (.float .f64 x)).run Try.prog w = stored Try.prog w a (.float .f64 x) .plain := fun a x w => run_store _ _ _ _ _ rfl
  have HBAD := Lib.hid hb
  clear hb
  go_enter Try.func26, Try.ntmps26
  have k1 := (((BlkL.new w [.int .i64 an, .int .i64 abad, .float .f64 asu, .float .f64 alo, .float .f64 alw, .float .f64 ahi, .float .f64 ame, .float .f64 asp] 31).alloc (.cells #[.int .i64 bn, .int .i64 bbad, .float .f64 bsu, .float .f64 blo, .float .f64 blw, .float .f64 bhi, .float .f64 bme, .float .f64 bsp] 31)).alloc (.cells #[.int .i64 0, .int .i64 0, .float .f64 0, .float .f64 0, .float .f64 0, .float .f64 0, .float .f64 0, .float .f64 0] 31))
  have k2 := ((BlkL.new (w.alloc (.cells #[.int .i64 an, .int .i64 abad, .float .f64 asu, .float .f64 alo, .float .f64 alw, .float .f64 ahi, .float .f64 ame, .float .f64 asp] 31)) [.int .i64 bn, .int .i64 bbad, .float .f64 bsu, .float .f64 blo, .float .f64 blw, .float .f64 bhi, .float .f64 bme, .float .f64 bsp] 31).alloc (.cells #[.int .i64 0, .int .i64 0, .float .f64 0, .float .f64 0, .float .f64 0, .float .f64 0, .float .f64 0, .float .f64 0] 31))
  have k3 := (BlkL.new ((w.alloc (.cells #[.int .i64 an, .int .i64 abad, .float .f64 asu, .float .f64 alo, .float .f64 alw, .float .f64 ahi, .float .f64 ame, .float .f64 asp] 31)).alloc (.cells #[.int .i64 bn, .int .i64 bbad, .float .f64 bsu, .float .f64 blo, .float .f64 blw, .float .f64 bhi, .float .f64 bme, .float .f64 bsp] 31)) [.int .i64 0, .int .i64 0, .float .f64 0, .float .f64 0, .float .f64 0, .float .f64 0, .float .f64 0, .float .f64 0] 31)
  simp only [World.size_alloc] at k2 k3
  have k4 := BlkL.new (((w.alloc (.cells #[.int .i64 an, .int .i64 abad, .float .f64 asu, .float .f64 alo, .float .f64 alw, .float .f64 ahi, .float .f64 ame, .float .f64 asp] 31)).alloc (.cells #[.int .i64 bn, .int .i64 bbad, .float .f64 bsu, .float .f64 blo, .float .f64 blw, .float .f64 bhi, .float .f64 bme, .float .f64 bsp] 31)).alloc (.cells #[.int .i64 0, .int .i64 0, .float .f64 0, .float .f64 0, .float .f64 0, .float .f64 0, .float .f64 0, .float .f64 0] 31)) [.int .i64 an, .int .i64 bn, .int .i64 abad, .int .i64 bbad] 79
  simp only [World.size_alloc] at k4
  have D0 : Hid (DMk w w.heap.size (w.heap.size + 1 + 1 + 1) [.int .i64 an, .int .i64 abad, .float .f64 asu, .float .f64 alo, .float .f64 alw, .float .f64 ahi, .float .f64 ame, .float .f64 asp] [.int .i64 bn, .int .i64 bbad, .float .f64 bsu, .float .f64 blo, .float .f64 blw, .float .f64 bhi, .float .f64 bme, .float .f64 bsp] [.int .i64 0, .int .i64 0, .float .f64 0, .float .f64 0, .float .f64 0, .float .f64 0, .float .f64 0, .float .f64 0] [.int .i64 an, .int .i64 bn, .int .i64 abad, .int .i64 bbad] ((((w.alloc (.cells #[.int .i64 an, .int .i64 abad, .float .f64 asu, .float .f64 alo, .float .f64 alw, .float .f64 ahi, .float .f64 ame, .float .f64 asp] 31)).alloc (.cells #[.int .i64 bn, .int .i64 bbad, .float .f64 bsu, .float .f64 blo, .float .f64 blw, .float .f64 bhi, .float .f64 bme, .float .f64 bsp] 31)).alloc (.cells #[.int .i64 0, .int .i64 0, .float .f64 0, .float .f64 0, .float .f64 0, .float .f64 0, .float .f64 0, .float .f64 0] 31)).alloc (.cells #[.int .i64 an, .int .i64 bn, .int .i64 abad, .int .i64 bbad] 79))) := Lib.hid ⟨k1.alloc _, k2.alloc _, k3.alloc _, k4, ((((Below.refl w.heap.size w).alloc (Nat.le_refl _) _).alloc (by simp) _).alloc (by simp <;> omega) _).alloc (by simp <;> omega) _⟩
  clear k1 k2 k3 k4
  go_wp2
  go_loopw [31] (fun iv wr => ∃ i : Nat, i ≤ 2 ∧ iv = .int .i64 (i : Int) ∧ (1 ≤ i → cntB an bn = true) ∧ (2 ≤ i → cntB abad bbad = true) ∧ DMk w w.heap.size (w.heap.size + 1 + 1 + 1) [.int .i64 an, .int .i64 abad, .float .f64 asu, .float .f64 alo, .float .f64 alw, .float .f64 ahi, .float .f64 ame, .float .f64 asp] [.int .i64 bn, .int .i64 bbad, .float .f64 bsu, .float .f64 blo, .float .f64 blw, .float .f64 bhi, .float .f64 bme, .float .f64 bsp] [.int .i64 0, .int .i64 0, .float .f64 0, .float .f64 0, .float .f64 0, .float .f64 0, .float .f64 0, .float .f64 0] [.int .i64 an, .int .i64 bn, .int .i64 abad, .int .i64 bbad] wr) (fun iv _ => 2 - (intOf iv).toNat)
  case atStart => exact ⟨0, by omega, rfl, fun h => absurd h (by omega), fun h => absurd h (by omega), D0.out⟩
  case round =>
    obtain ⟨i, hi, rfl, c1, c2, D⟩ := hrel
    rcases (by omega : i = 0 ∨ i = 1 ∨ i = 2) with rfl | rfl | rfl
    · have DD := Lib.hid D
      have y0 := D.k4.cell 0 _ rfl
      have y1 := D.k4.cell 1 _ rfl
      have ly := D.k4.lt
      have k3 := D.k3
      have z0 := k3.cell 0 _ rfl
      have zf0 := k3.froz 0 (by simp)
      have z1 := k3.cell 1 _ rfl
      have zf1 := k3.froz 1 (by simp)
      have z2 := k3.cell 2 _ rfl
      have zf2 := k3.froz 2 (by simp)
      have z3 := k3.cell 3 _ rfl
      have zf3 := k3.froz 3 (by simp)
      have z4 := k3.cell 4 _ rfl
      have zf4 := k3.froz 4 (by simp)
      have z5 := k3.cell 5 _ rfl
      have zf5 := k3.froz 5 (by simp)
      have z6 := k3.cell 6 _ rfl
      have zf6 := k3.froz 6 (by simp)
      have z7 := k3.cell 7 _ rfl
      have zf7 := k3.froz 7 (by simp)
      have lz := k3.lt
      have C1 := Lib.hid c1
      clear k3 D c1 c2 D0
      have lw : w.heap.size ≤ wr.heap.size := DD.out.bel.size
      rcases (by omega : an < 0 ∨ 0 ≤ an) with g1 | g1
      · skip
        go_wp2
        have K4 := (blk_put8 DD.out.k3 (.int .i64 0) (.int .i64 0) (.float .f64 0) (.float .f64 0) (.float .f64 0) (.float .f64 0) (.float .f64 0) (.float .f64 0)).alloc (.cells #[.int .i64 an, .int .i64 bn] 79)
        have q0 := K4.cell 0 _ rfl
        have q1 := K4.cell 1 _ rfl
        have q2 := K4.cell 2 _ rfl
        have q3 := K4.cell 3 _ rfl
        have q4 := K4.cell 4 _ rfl
        have q5 := K4.cell 5 _ rfl
        have q6 := K4.cell 6 _ rfl
        have q7 := K4.cell 7 _ rfl
        refine bodyPost_ret (v := .tuple #[MV.val zeroM, .int .i64 1]) (by simp [results, Try.results26, go_sem, MV.val, zeroM, q0, q1, q2, q3, q4, q5, q6, q7]) rfl ⟨rfl, ?_⟩
        repeat' first
          | with_reducible exact DD.out.bel
          | with_reducible refine Below.setCell ?_ (by simp <;> omega) _
          | with_reducible refine Below.alloc ?_ (by simp <;> omega) _
          | with_reducible refine Below.drew ?_
      · rcases (by omega : bn < 0 ∨ 0 ≤ bn) with g2 | g2
        · skip
          go_wp2
          have K4 := (blk_put8 DD.out.k3 (.int .i64 0) (.int .i64 0) (.float .f64 0) (.float .f64 0) (.float .f64 0) (.float .f64 0) (.float .f64 0) (.float .f64 0)).alloc (.cells #[.int .i64 an, .int .i64 bn] 79)
          have q0 := K4.cell 0 _ rfl
          have q1 := K4.cell 1 _ rfl
          have q2 := K4.cell 2 _ rfl
          have q3 := K4.cell 3 _ rfl
          have q4 := K4.cell 4 _ rfl
          have q5 := K4.cell 5 _ rfl
          have q6 := K4.cell 6 _ rfl
          have q7 := K4.cell 7 _ rfl
          refine bodyPost_ret (v := .tuple #[MV.val zeroM, .int .i64 1]) (by simp [results, Try.results26, go_sem, MV.val, zeroM, q0, q1, q2, q3, q4, q5, q6, q7]) rfl ⟨rfl, ?_⟩
          repeat' first
            | with_reducible exact DD.out.bel
            | with_reducible refine Below.setCell ?_ (by simp <;> omega) _
            | with_reducible refine Below.alloc ?_ (by simp <;> omega) _
            | with_reducible refine Below.drew ?_
        · rcases (by omega : 9007199254740992 < an ∨ an ≤ 9007199254740992) with g3 | g3
          · skip
            go_wp2
            have K4 := (blk_put8 DD.out.k3 (.int .i64 0) (.int .i64 0) (.float .f64 0) (.float .f64 0) (.float .f64 0) (.float .f64 0) (.float .f64 0) (.float .f64 0)).alloc (.cells #[.int .i64 an, .int .i64 bn] 79)
            have q0 := K4.cell 0 _ rfl
            have q1 := K4.cell 1 _ rfl
            have q2 := K4.cell 2 _ rfl
            have q3 := K4.cell 3 _ rfl
            have q4 := K4.cell 4 _ rfl
            have q5 := K4.cell 5 _ rfl
            have q6 := K4.cell 6 _ rfl
            have q7 := K4.cell 7 _ rfl
            refine bodyPost_ret (v := .tuple #[MV.val zeroM, .int .i64 1]) (by simp [results, Try.results26, go_sem, MV.val, zeroM, q0, q1, q2, q3, q4, q5, q6, q7]) rfl ⟨rfl, ?_⟩
            repeat' first
              | with_reducible exact DD.out.bel
              | with_reducible refine Below.setCell ?_ (by simp <;> omega) _
              | with_reducible refine Below.alloc ?_ (by simp <;> omega) _
              | with_reducible refine Below.drew ?_
          · rcases (by omega : 9007199254740992 < bn ∨ bn ≤ 9007199254740992) with g4 | g4
            · skip
              go_wp2
              have K4 := (blk_put8 DD.out.k3 (.int .i64 0) (.int .i64 0) (.float .f64 0) (.float .f64 0) (.float .f64 0) (.float .f64 0) (.float .f64 0) (.float .f64 0)).alloc (.cells #[.int .i64 an, .int .i64 bn] 79)
              have q0 := K4.cell 0 _ rfl
              have q1 := K4.cell 1 _ rfl
              have q2 := K4.cell 2 _ rfl
              have q3 := K4.cell 3 _ rfl
              have q4 := K4.cell 4 _ rfl
              have q5 := K4.cell 5 _ rfl
              have q6 := K4.cell 6 _ rfl
              have q7 := K4.cell 7 _ rfl
              refine bodyPost_ret (v := .tuple #[MV.val zeroM, .int .i64 1]) (by simp [results, Try.results26, go_sem, MV.val, zeroM, q0, q1, q2, q3, q4, q5, q6, q7]) rfl ⟨rfl, ?_⟩
              repeat' first
                | with_reducible exact DD.out.bel
                | with_reducible refine Below.setCell ?_ (by simp <;> omega) _
                | with_reducible refine Below.alloc ?_ (by simp <;> omega) _
                | with_reducible refine Below.drew ?_
            · have hs : IntKind.i64.wrap (an + bn) = an + bn := IntWalk.i64_in _ (by omega)
              rcases (by omega : 9007199254740992 < an + bn ∨ an + bn ≤ 9007199254740992) with g5 | g5
              · skip
                go_wp2
                have K4 := (blk_put8 DD.out.k3 (.int .i64 0) (.int .i64 0) (.float .f64 0) (.float .f64 0) (.float .f64 0) (.float .f64 0) (.float .f64 0) (.float .f64 0)).alloc (.cells #[.int .i64 an, .int .i64 bn] 79)
                have q0 := K4.cell 0 _ rfl
                have q1 := K4.cell 1 _ rfl
                have q2 := K4.cell 2 _ rfl
                have q3 := K4.cell 3 _ rfl
                have q4 := K4.cell 4 _ rfl
                have q5 := K4.cell 5 _ rfl
                have q6 := K4.cell 6 _ rfl
                have q7 := K4.cell 7 _ rfl
                refine bodyPost_ret (v := .tuple #[MV.val zeroM, .int .i64 1]) (by simp [results, Try.results26, go_sem, MV.val, zeroM, q0, q1, q2, q3, q4, q5, q6, q7]) rfl ⟨rfl, ?_⟩
                repeat' first
                  | with_reducible exact DD.out.bel
                  | with_reducible refine Below.setCell ?_ (by simp <;> omega) _
                  | with_reducible refine Below.alloc ?_ (by simp <;> omega) _
                  | with_reducible refine Below.drew ?_
              · have CC := Lib.hid (cntB_iff.mpr ⟨g1, g2, g5⟩)
                go_wp2
                refine ⟨⟨1, by omega, rfl, fun _ => CC.out, fun h => absurd h (by omega), DD.out.alloc _⟩, by decide⟩
    · have DD := Lib.hid D
      have y0 := D.k4.cell 2 _ rfl
      have y1 := D.k4.cell 3 _ rfl
      have ly := D.k4.lt
      have k3 := D.k3
      have z0 := k3.cell 0 _ rfl
      have zf0 := k3.froz 0 (by simp)
      have z1 := k3.cell 1 _ rfl
      have zf1 := k3.froz 1 (by simp)
      have z2 := k3.cell 2 _ rfl
      have zf2 := k3.froz 2 (by simp)
      have z3 := k3.cell 3 _ rfl
      have zf3 := k3.froz 3 (by simp)
      have z4 := k3.cell 4 _ rfl
      have zf4 := k3.froz 4 (by simp)
      have z5 := k3.cell 5 _ rfl
      have zf5 := k3.froz 5 (by simp)
      have z6 := k3.cell 6 _ rfl
      have zf6 := k3.froz 6 (by simp)
      have z7 := k3.cell 7 _ rfl
      have zf7 := k3.froz 7 (by simp)
      have lz := k3.lt
      have C1 := Lib.hid c1
      clear k3 D c1 c2 D0
      have lw : w.heap.size ≤ wr.heap.size := DD.out.bel.size
      rcases (by omega : abad < 0 ∨ 0 ≤ abad) with g1 | g1
      · skip
        go_wp2
        have K4 := (blk_put8 DD.out.k3 (.int .i64 0) (.int .i64 0) (.float .f64 0) (.float .f64 0) (.float .f64 0) (.float .f64 0) (.float .f64 0) (.float .f64 0)).alloc (.cells #[.int .i64 abad, .int .i64 bbad] 79)
        have q0 := K4.cell 0 _ rfl
        have q1 := K4.cell 1 _ rfl
        have q2 := K4.cell 2 _ rfl
        have q3 := K4.cell 3 _ rfl
        have q4 := K4.cell 4 _ rfl
        have q5 := K4.cell 5 _ rfl
        have q6 := K4.cell 6 _ rfl
        have q7 := K4.cell 7 _ rfl
        refine bodyPost_ret (v := .tuple #[MV.val zeroM, .int .i64 1]) (by simp [results, Try.results26, go_sem, MV.val, zeroM, q0, q1, q2, q3, q4, q5, q6, q7]) rfl ⟨rfl, ?_⟩
        repeat' first
          | with_reducible exact DD.out.bel
          | with_reducible refine Below.setCell ?_ (by simp <;> omega) _
          | with_reducible refine Below.alloc ?_ (by simp <;> omega) _
          | with_reducible refine Below.drew ?_
      · rcases (by omega : bbad < 0 ∨ 0 ≤ bbad) with g2 | g2
        · skip
          go_wp2
          have K4 := (blk_put8 DD.out.k3 (.int .i64 0) (.int .i64 0) (.float .f64 0) (.float .f64 0) (.float .f64 0) (.float .f64 0) (.float .f64 0) (.float .f64 0)).alloc (.cells #[.int .i64 abad, .int .i64 bbad] 79)
          have q0 := K4.cell 0 _ rfl
          have q1 := K4.cell 1 _ rfl
          have q2 := K4.cell 2 _ rfl
          have q3 := K4.cell 3 _ rfl
          have q4 := K4.cell 4 _ rfl
          have q5 := K4.cell 5 _ rfl
          have q6 := K4.cell 6 _ rfl
          have q7 := K4.cell 7 _ rfl
          refine bodyPost_ret (v := .tuple #[MV.val zeroM, .int .i64 1]) (by simp [results, Try.results26, go_sem, MV.val, zeroM, q0, q1, q2, q3, q4, q5, q6, q7]) rfl ⟨rfl, ?_⟩
          repeat' first
            | with_reducible exact DD.out.bel
            | with_reducible refine Below.setCell ?_ (by simp <;> omega) _
            | with_reducible refine Below.alloc ?_ (by simp <;> omega) _
            | with_reducible refine Below.drew ?_
        · rcases (by omega : 9007199254740992 < abad ∨ abad ≤ 9007199254740992) with g3 | g3
          · skip
            go_wp2
            have K4 := (blk_put8 DD.out.k3 (.int .i64 0) (.int .i64 0) (.float .f64 0) (.float .f64 0) (.float .f64 0) (.float .f64 0) (.float .f64 0) (.float .f64 0)).alloc (.cells #[.int .i64 abad, .int .i64 bbad] 79)
            have q0 := K4.cell 0 _ rfl
            have q1 := K4.cell 1 _ rfl
            have q2 := K4.cell 2 _ rfl
            have q3 := K4.cell 3 _ rfl
            have q4 := K4.cell 4 _ rfl
            have q5 := K4.cell 5 _ rfl
            have q6 := K4.cell 6 _ rfl
            have q7 := K4.cell 7 _ rfl
            refine bodyPost_ret (v := .tuple #[MV.val zeroM, .int .i64 1]) (by simp [results, Try.results26, go_sem, MV.val, zeroM, q0, q1, q2, q3, q4, q5, q6, q7]) rfl ⟨rfl, ?_⟩
            repeat' first
              | with_reducible exact DD.out.bel
              | with_reducible refine Below.setCell ?_ (by simp <;> omega) _
              | with_reducible refine Below.alloc ?_ (by simp <;> omega) _
              | with_reducible refine Below.drew ?_
          · rcases (by omega : 9007199254740992 < bbad ∨ bbad ≤ 9007199254740992) with g4 | g4
            · skip
              go_wp2
              have K4 := (blk_put8 DD.out.k3 (.int .i64 0) (.int .i64 0) (.float .f64 0) (.float .f64 0) (.float .f64 0) (.float .f64 0) (.float .f64 0) (.float .f64 0)).alloc (.cells #[.int .i64 abad, .int .i64 bbad] 79)
              have q0 := K4.cell 0 _ rfl
              have q1 := K4.cell 1 _ rfl
              have q2 := K4.cell 2 _ rfl
              have q3 := K4.cell 3 _ rfl
              have q4 := K4.cell 4 _ rfl
              have q5 := K4.cell 5 _ rfl
              have q6 := K4.cell 6 _ rfl
              have q7 := K4.cell 7 _ rfl
              refine bodyPost_ret (v := .tuple #[MV.val zeroM, .int .i64 1]) (by simp [results, Try.results26, go_sem, MV.val, zeroM, q0, q1, q2, q3, q4, q5, q6, q7]) rfl ⟨rfl, ?_⟩
              repeat' first
                | with_reducible exact DD.out.bel
                | with_reducible refine Below.setCell ?_ (by simp <;> omega) _
                | with_reducible refine Below.alloc ?_ (by simp <;> omega) _
                | with_reducible refine Below.drew ?_
            · have hs : IntKind.i64.wrap (abad + bbad) = abad + bbad := IntWalk.i64_in _ (by omega)
              rcases (by omega : 9007199254740992 < abad + bbad ∨ abad + bbad ≤ 9007199254740992) with g5 | g5
              · skip
                go_wp2
                have K4 := (blk_put8 DD.out.k3 (.int .i64 0) (.int .i64 0) (.float .f64 0) (.float .f64 0) (.float .f64 0) (.float .f64 0) (.float .f64 0) (.float .f64 0)).alloc (.cells #[.int .i64 abad, .int .i64 bbad] 79)
                have q0 := K4.cell 0 _ rfl
                have q1 := K4.cell 1 _ rfl
                have q2 := K4.cell 2 _ rfl
                have q3 := K4.cell 3 _ rfl
                have q4 := K4.cell 4 _ rfl
                have q5 := K4.cell 5 _ rfl
                have q6 := K4.cell 6 _ rfl
                have q7 := K4.cell 7 _ rfl
                refine bodyPost_ret (v := .tuple #[MV.val zeroM, .int .i64 1]) (by simp [results, Try.results26, go_sem, MV.val, zeroM, q0, q1, q2, q3, q4, q5, q6, q7]) rfl ⟨rfl, ?_⟩
                repeat' first
                  | with_reducible exact DD.out.bel
                  | with_reducible refine Below.setCell ?_ (by simp <;> omega) _
                  | with_reducible refine Below.alloc ?_ (by simp <;> omega) _
                  | with_reducible refine Below.drew ?_
              · have CC := Lib.hid (cntB_iff.mpr ⟨g1, g2, g5⟩)
                go_wp2
                refine ⟨⟨2, by omega, rfl, fun _ => C1.out (by omega), fun _ => CC.out, DD.out.alloc _⟩, by decide⟩
    · have c12 := HBAD.out
      rw [c1 (by omega), c2 (by omega)] at c12
      exact absurd c12 (by decide)
end Go.Proofs.Ytffibfnagoagcaa
