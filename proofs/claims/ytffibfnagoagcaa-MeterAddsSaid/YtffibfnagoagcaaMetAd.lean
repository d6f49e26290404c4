/- The law MeterAdds: its walk. -/
import Derived.Test.YtffibfnagoagcaaMetM
import Derived.Test.YtffibfnagoagcaaMetC
import Derived.Test.YtffibfnagoagcaaMetE
import Derived.Test.YtffibfnagoagcaaMetZ
import Derived.Deep.RegionHeld3
import Derived.BigRegion
namespace Go.Proofs.Ytffibfnagoagcaa
open Go.RowKit
set_option maxRecDepth 100000
set_option linter.unusedVariables false

theorem tm53 (n : Int) : -9007199254740992 < n.tmod 9007199254740992 ∧ n.tmod 9007199254740992 < 9007199254740992 := by
  rcases Int.lt_or_le n 0 with h | h
  · obtain ⟨k, rfl⟩ : ∃ k, n = -k := ⟨-n, by omega⟩
    rw [Int.neg_tmod, Int.tmod_eq_emod_of_nonneg (by omega)]
    omega
  · rw [Int.tmod_eq_emod_of_nonneg h]; omega
/-- What the law keeps: two meters in memory, and what was there before. -/
structure RA (w : World) (z5 z6 : Nat) (X : List Value) (W : World) : Prop where
  k5 : BlkL W z5 X
  k6 : BlkL W z6 X
  bel : Below w.heap.size w W
theorem RA.below {w W W' : World} {z5 z6 : Nat} {X : List Value} (h : RA w z5 z6 X W) (hb : Below W.heap.size W W') : RA w z5 z6 X W' := ⟨h.k5.below hb, h.k6.below hb, h.bel.trans (hb.mono h.bel.size)⟩
theorem RA.drew {w W : World} {z5 z6 : Nat} {X : List Value} (h : RA w z5 z6 X W) : RA w z5 z6 X W.drew := ⟨h.k5.drew, h.k6.drew, h.bel.drew⟩
set_option maxHeartbeats 6400000 in
theorem meterAdds_g (n bad : Int) (su lo lw hi me sp x : Nat) (w : World) (h0 : su ≤ 18446744073709551615) (h1 : lo ≤ 18446744073709551615) (h2 : lw ≤ 18446744073709551615) (h3 : hi ≤ 18446744073709551615) (h4 : me ≤ 18446744073709551615) (h5 : sp ≤ 18446744073709551615) (hx : x ≤ 18446744073709551615) :
    Calls Try.prog 3 #[.agg #[.int .i64 n, .int .i64 bad, .int .u64 (su : Int), .int .u64 (lo : Int), .int .u64 (lw : Int), .int .u64 (hi : Int), .int .u64 (me : Int), .int .u64 (sp : Int)], .int .u64 (x : Int)] w (ValEnd w (.bool true)) := by
  have HAW := Lib.hid awake8_any
  have HNP := Lib.hid newP_any
  have HND := Lib.hid newD_any
  have HSN := Lib.hid (fun w => same8l_any w newM newM newM_ok newM_ok rfl)
  have HOF := Lib.hid (fun w p => of8_any w p)
  obtain ⟨qn, hqn⟩ : ∃ q, n.tmod 9007199254740992 = q := ⟨_, rfl⟩
  obtain ⟨qb, hqb⟩ : ∃ q, bad.tmod 9007199254740992 = q := ⟨_, rfl⟩
  have bn := tm53 n
  have bb := tm53 bad
  rw [hqn] at bn
  rw [hqb] at bb
  obtain ⟨bn0, bn1⟩ := bn
  obtain ⟨bb0, bb1⟩ := bb
  have K0 := Lib.hid (BlkL.new w [.int .i64 n, .int .i64 bad, .int .u64 (su : Int), .int .u64 (lo : Int), .int .u64 (lw : Int), .int .u64 (hi : Int), .int .u64 (me : Int), .int .u64 (sp : Int)] 24)
  have B0 := Lib.hid ((Below.refl w.heap.size w).alloc (Nat.le_refl _) (.cells #[.int .i64 n, .int .i64 bad, .int .u64 (su : Int), .int .u64 (lo : Int), .int .u64 (lw : Int), .int .u64 (hi : Int), .int .u64 (me : Int), .int .u64 (sp : Int)] 24))
  generalize hm : newM.val = nm at HNP HND HSN
  have kst : ∀ (a : Addr) (x : Nat) (w : World), (store a (.float .f64 x)).run Try.prog w = stored Try.prog w a (.float .f64 x) .plain := fun a x w => run_store _ _ _ _ _ rfl
  go_enter Try.func3, Try.ntmps3
  go_wp2_with fail
  with_reducible refine (HAW.out _).mono ?_
  rintro e w1 ⟨rfl, hb1⟩
  have K1 := Lib.hid (K0.out.below hb1)
  have B1 := Lib.hid (B0.out.trans (hb1.mono B0.out.size))
  clear hb1
  go_wp2_with fail
  with_reducible refine (HNP.out _).mono ?_
  rintro e w2 ⟨rfl, hb1⟩
  have K2 := Lib.hid (K1.out.below hb1)
  have B2 := Lib.hid (B1.out.trans (hb1.mono B1.out.size))
  clear hb1
  go_wp2_with fail
  with_reducible refine (HND.out _).mono ?_
  rintro e w3 ⟨rfl, hb1⟩
  have K3 := Lib.hid (K2.out.below hb1)
  have B3 := Lib.hid (B2.out.trans (hb1.mono B2.out.size))
  clear hb1
  go_wp2_with fail
  with_reducible refine (HSN.out _).mono ?_
  rintro e w4 ⟨rfl, hb1⟩
  have k4 := K3.out.below hb1
  have B4 := Lib.hid (B3.out.trans (hb1.mono B3.out.size))
  clear hb1 K0 K1 K2 K3 B0 B1 B2 B3
  have z0 := k4.cell 0 _ rfl
  have z1 := k4.cell 1 _ rfl
  have z2 := k4.cell 2 _ rfl
  have z3 := k4.cell 3 _ rfl
  have z4 := k4.cell 4 _ rfl
  have z5 := k4.cell 5 _ rfl
  have z6 := k4.cell 6 _ rfl
  have z7 := k4.cell 7 _ rfl
  have f0 := k4.froz 0 (by simp)
  have f1 := k4.froz 1 (by simp)
  have zl := k4.lt
  have bA : ∀ u v : Value, Below w.heap.size w ((w4.setCell ⟨w.heap.size, 0, none⟩ u).setCell ⟨w.heap.size, 1, none⟩ v) := fun u v => (B4.out.setCell (p := ⟨w.heap.size, 0, none⟩) (Nat.le_refl _) u).setCell (p := ⟨w.heap.size, 1, none⟩) (Nat.le_refl _) v
  have BA := Lib.hid bA
  clear bA
  have bC : ∀ u v t : Value, Below w.heap.size w (((w4.setCell ⟨w.heap.size, 0, none⟩ u).setCell ⟨w.heap.size, 1, none⟩ v).setCell ⟨w.heap.size, 0, none⟩ t) := fun u v t => (BA.out u v).setCell (p := ⟨w.heap.size, 0, none⟩) (Nat.le_refl _) t
  have BC := Lib.hid bC
  clear bC k4
  by_cases hneg : qn < 0
  · go_wp2_with fail
    have HM := Lib.hid (fun W => made_any W ((-qn)) qb su lo lw hi me sp)
    simp only [MV.val] at HM
    with_reducible refine (HM.out _).mono ?_
    rintro e w5 ⟨rfl, hb5⟩
    have hbel := BC.out (.int .i64 qn) (.int .i64 qb) (.int .i64 (-qn))
    have B5 := hbel.trans (hb5.mono hbel.size)
    have hbn : -1152921504606846976 ≤ (-qn) ∧ (-qn) ≤ 1152921504606846976 := by omega
    clear HM hb5 hbel BA BC B4 z0 z1 z2 z3 z4 z5 z6 z7 f0 f1 zl hqn hqb hneg
    generalize (-qn) = nn at *
    have R0 : Hid (RA w w5.heap.size (w5.heap.size + 1) [.int .i64 nn, .int .i64 qb, .float .f64 su, .float .f64 lo, .float .f64 lw, .float .f64 hi, .float .f64 me, .float .f64 sp] ((w5.alloc (.cells #[.int .i64 nn, .int .i64 qb, .float .f64 su, .float .f64 lo, .float .f64 lw, .float .f64 hi, .float .f64 me, .float .f64 sp] 29)).alloc (.cells #[.int .i64 nn, .int .i64 qb, .float .f64 su, .float .f64 lo, .float .f64 lw, .float .f64 hi, .float .f64 me, .float .f64 sp] 31))) := by
      have k6 := BlkL.new (w5.alloc (.cells #[.int .i64 nn, .int .i64 qb, .float .f64 su, .float .f64 lo, .float .f64 lw, .float .f64 hi, .float .f64 me, .float .f64 sp] 29)) [.int .i64 nn, .int .i64 qb, .float .f64 su, .float .f64 lo, .float .f64 lw, .float .f64 hi, .float .f64 me, .float .f64 sp] 31
      simp only [World.size_alloc] at k6
      exact Lib.hid ⟨(BlkL.new w5 [.int .i64 nn, .int .i64 qb, .float .f64 su, .float .f64 lo, .float .f64 lw, .float .f64 hi, .float .f64 me, .float .f64 sp] 29).alloc _, k6, (B5.alloc B5.size _).alloc (by simp; have := B5.size; omega) _⟩
    have ok0 : MV.Ok ⟨nn, qb, su, lo, lw, hi, me, sp⟩ := ⟨h0, h1, h2, h3, h4, h5⟩
    have HAP : Hid (∀ W z5 z6 X, RA w z5 z6 X W → Calls Try.prog 16 #[.agg #[.int .i64 nn, .int .i64 qb, .float .f64 su, .float .f64 lo, .float .f64 lw, .float .f64 hi, .float .f64 me, .float .f64 sp], .float .f64 x] W fun e w' => ∃ m : MV, e = .returned m.val ∧ m.Ok ∧ m.can = addC (MV.can ⟨nn, qb, su, lo, lw, hi, me, sp⟩) (canB x) ∧ RA w z5 z6 X w') :=
      Lib.hid fun W z5 z6 X hR => (addP_any W ⟨nn, qb, su, lo, lw, hi, me, sp⟩ x ok0 hx hbn.1 hbn.2 (by show _ ≤ qb; omega) (by show qb ≤ _; omega)).mono fun e w' ⟨m, a1, a2, a3, a4⟩ => ⟨m, a1, a2, a3, hR.below a4⟩
    have HAD : Hid (∀ W z5 z6 X, RA w z5 z6 X W → Calls Try.prog 18 #[.agg #[.int .i64 nn, .int .i64 qb, .float .f64 su, .float .f64 lo, .float .f64 lw, .float .f64 hi, .float .f64 me, .float .f64 sp], .float .f64 x] W fun e w' => ∃ m : MV, e = .returned m.val ∧ m.Ok ∧ m.can = addC (MV.can ⟨nn, qb, su, lo, lw, hi, me, sp⟩) (canB x) ∧ RA w z5 z6 X w') :=
      Lib.hid fun W z5 z6 X hR => (addD_any W ⟨nn, qb, su, lo, lw, hi, me, sp⟩ x ok0 hx hbn.1 hbn.2 (by show _ ≤ qb; omega) (by show qb ≤ _; omega)).mono fun e w' ⟨m, a1, a2, a3, a4⟩ => ⟨m, a1, a2, a3, hR.below a4⟩
    have HSM : Hid (∀ W z5 z6 X, RA w z5 z6 X W → ∀ ma mb : MV, ma.Ok → mb.Ok → ma.can = mb.can → Calls Try.prog 12 #[ma.val, mb.val] W fun e w' => e = .returned (.bool true) ∧ RA w z5 z6 X w') :=
      Lib.hid fun W z5 z6 X hR ma mb o1 o2 hc => (same8l_any W ma mb o1 o2 hc).mono fun e w' ⟨a1, a2⟩ => ⟨a1, hR.below a2⟩
    have HTP : Hid (∀ W z5 z6 X, RA w z5 z6 X W → Calls Try.prog 20 #[.agg #[.int .i64 nn, .int .i64 qb, .float .f64 su, .float .f64 lo, .float .f64 lw, .float .f64 hi, .float .f64 me, .float .f64 sp]] W fun e w' => ∃ v, e = .returned (.float .f64 v) ∧ v ≤ 18446744073709551615 ∧ canB v = totC (MV.can ⟨nn, qb, su, lo, lw, hi, me, sp⟩) ∧ RA w z5 z6 X w') :=
      Lib.hid fun W z5 z6 X hR => (totP_any W ⟨nn, qb, su, lo, lw, hi, me, sp⟩ ok0).mono fun e w' ⟨v, a1, a2, a3, a4⟩ => ⟨v, a1, a2, a3, hR.below a4⟩
    have HTD : Hid (∀ W z5 z6 X, RA w z5 z6 X W → Calls Try.prog 21 #[.agg #[.int .i64 nn, .int .i64 qb, .float .f64 su, .float .f64 lo, .float .f64 lw, .float .f64 hi, .float .f64 me, .float .f64 sp]] W fun e w' => ∃ v, e = .returned (.float .f64 v) ∧ v ≤ 18446744073709551615 ∧ canB v = totC (MV.can ⟨nn, qb, su, lo, lw, hi, me, sp⟩) ∧ RA w z5 z6 X w') :=
      Lib.hid fun W z5 z6 X hR => (totD_any W ⟨nn, qb, su, lo, lw, hi, me, sp⟩ ok0).mono fun e w' ⟨v, a1, a2, a3, a4⟩ => ⟨v, a1, a2, a3, hR.below a4⟩
    have HYS := Lib.hid (fun w a b (ha : a ≤ 18446744073709551615) (hb : b ≤ 18446744073709551615) (h : canB a = canB b) => same_yes w a b ha hb h)
    clear ok0 B5
    go_wp2
    generalize ((w5.alloc (.cells #[.int .i64 nn, .int .i64 qb, .float .f64 su, .float .f64 lo, .float .f64 lw, .float .f64 hi, .float .f64 me, .float .f64 sp] 29)).alloc (.cells #[.int .i64 nn, .int .i64 qb, .float .f64 su, .float .f64 lo, .float .f64 lw, .float .f64 hi, .float .f64 me, .float .f64 sp] 31)) = wA at *
    generalize w5.heap.size = zz at *
    have r0 := R0.out.drew
    clear R0
    go_region_held3 (fun w' => w'.cell? ⟨zz, 0, none⟩ = some (.int .i64 nn) ∧ w'.cell? ⟨zz, 1, none⟩ = some (.int .i64 qb) ∧ w'.cell? ⟨zz, 2, none⟩ = some (.float .f64 su) ∧ w'.cell? ⟨zz, 3, none⟩ = some (.float .f64 lo) ∧ w'.cell? ⟨zz, 4, none⟩ = some (.float .f64 lw) ∧ w'.cell? ⟨zz, 5, none⟩ = some (.float .f64 hi) ∧ w'.cell? ⟨zz, 6, none⟩ = some (.float .f64 me) ∧ w'.cell? ⟨zz, 7, none⟩ = some (.float .f64 sp) ∧ w'.cell? ⟨zz + 1, 0, none⟩ = some (.int .i64 nn) ∧ w'.cell? ⟨zz + 1, 1, none⟩ = some (.int .i64 qb) ∧ w'.cell? ⟨zz + 1, 2, none⟩ = some (.float .f64 su) ∧ w'.cell? ⟨zz + 1, 3, none⟩ = some (.float .f64 lo) ∧ w'.cell? ⟨zz + 1, 4, none⟩ = some (.float .f64 lw) ∧ w'.cell? ⟨zz + 1, 5, none⟩ = some (.float .f64 hi) ∧ w'.cell? ⟨zz + 1, 6, none⟩ = some (.float .f64 me) ∧ w'.cell? ⟨zz + 1, 7, none⟩ = some (.float .f64 sp))
      ((refine ⟨BlkL.cell (xs := [.int .i64 nn, .int .i64 qb, .float .f64 su, .float .f64 lo, .float .f64 lw, .float .f64 hi, .float .f64 me, .float .f64 sp]) ?_ 0 _ rfl, BlkL.cell (xs := [.int .i64 nn, .int .i64 qb, .float .f64 su, .float .f64 lo, .float .f64 lw, .float .f64 hi, .float .f64 me, .float .f64 sp]) ?_ 1 _ rfl, BlkL.cell (xs := [.int .i64 nn, .int .i64 qb, .float .f64 su, .float .f64 lo, .float .f64 lw, .float .f64 hi, .float .f64 me, .float .f64 sp]) ?_ 2 _ rfl, BlkL.cell (xs := [.int .i64 nn, .int .i64 qb, .float .f64 su, .float .f64 lo, .float .f64 lw, .float .f64 hi, .float .f64 me, .float .f64 sp]) ?_ 3 _ rfl, BlkL.cell (xs := [.int .i64 nn, .int .i64 qb, .float .f64 su, .float .f64 lo, .float .f64 lw, .float .f64 hi, .float .f64 me, .float .f64 sp]) ?_ 4 _ rfl, BlkL.cell (xs := [.int .i64 nn, .int .i64 qb, .float .f64 su, .float .f64 lo, .float .f64 lw, .float .f64 hi, .float .f64 me, .float .f64 sp]) ?_ 5 _ rfl, BlkL.cell (xs := [.int .i64 nn, .int .i64 qb, .float .f64 su, .float .f64 lo, .float .f64 lw, .float .f64 hi, .float .f64 me, .float .f64 sp]) ?_ 6 _ rfl, BlkL.cell (xs := [.int .i64 nn, .int .i64 qb, .float .f64 su, .float .f64 lo, .float .f64 lw, .float .f64 hi, .float .f64 me, .float .f64 sp]) ?_ 7 _ rfl, BlkL.cell (xs := [.int .i64 nn, .int .i64 qb, .float .f64 su, .float .f64 lo, .float .f64 lw, .float .f64 hi, .float .f64 me, .float .f64 sp]) ?_ 0 _ rfl, BlkL.cell (xs := [.int .i64 nn, .int .i64 qb, .float .f64 su, .float .f64 lo, .float .f64 lw, .float .f64 hi, .float .f64 me, .float .f64 sp]) ?_ 1 _ rfl, BlkL.cell (xs := [.int .i64 nn, .int .i64 qb, .float .f64 su, .float .f64 lo, .float .f64 lw, .float .f64 hi, .float .f64 me, .float .f64 sp]) ?_ 2 _ rfl, BlkL.cell (xs := [.int .i64 nn, .int .i64 qb, .float .f64 su, .float .f64 lo, .float .f64 lw, .float .f64 hi, .float .f64 me, .float .f64 sp]) ?_ 3 _ rfl, BlkL.cell (xs := [.int .i64 nn, .int .i64 qb, .float .f64 su, .float .f64 lo, .float .f64 lw, .float .f64 hi, .float .f64 me, .float .f64 sp]) ?_ 4 _ rfl, BlkL.cell (xs := [.int .i64 nn, .int .i64 qb, .float .f64 su, .float .f64 lo, .float .f64 lw, .float .f64 hi, .float .f64 me, .float .f64 sp]) ?_ 5 _ rfl, BlkL.cell (xs := [.int .i64 nn, .int .i64 qb, .float .f64 su, .float .f64 lo, .float .f64 lw, .float .f64 hi, .float .f64 me, .float .f64 sp]) ?_ 6 _ rfl, BlkL.cell (xs := [.int .i64 nn, .int .i64 qb, .float .f64 su, .float .f64 lo, .float .f64 lw, .float .f64 hi, .float .f64 me, .float .f64 sp]) ?_ 7 _ rfl⟩ <;> first | (with_reducible exact RA.k5 (by assumption)) | (with_reducible exact RA.k6 (by assumption))))
      (first
        | ((with_reducible refine (HOF.out _ _).mono ?_); rintro e wx ⟨rfl, rfl⟩)
        | ((with_reducible refine (HAP.out _ _ _ _ (by assumption)).mono ?_); rintro e wp ⟨ma, rfl, oka, ca, rp⟩)
        | ((with_reducible refine (HAD.out _ _ _ _ (by assumption)).mono ?_); rintro e wd ⟨mb, rfl, okb, cb, rd⟩)
        | ((with_reducible refine (HSM.out _ _ _ _ (by assumption) ma mb oka okb (ca.trans cb.symm)).mono ?_); rintro e ws ⟨rfl, rs⟩)
        | ((with_reducible refine (HTP.out _ _ _ _ (by assumption)).mono ?_); rintro e wt ⟨vp, rfl, lvp, cvp, rtp⟩)
        | ((with_reducible refine (HTD.out _ _ _ _ (by assumption)).mono ?_); rintro e wu ⟨vd, rfl, lvd, cvd, rtd⟩)
        | ((with_reducible refine (HYS.out _ vp vd lvp lvd (cvp.trans cvd.symm)).mono ?_); rintro e wy ⟨rfl, rfl⟩))
    all_goals
      go_wp2
      go_ret
      exact ⟨rfl, RA.bel (by assumption)⟩
  · have hneg2 : ¬ qn < 0 := hneg
    go_wp2_with fail
    have HM := Lib.hid (fun W => made_any W (qn) qb su lo lw hi me sp)
    simp only [MV.val] at HM
    with_reducible refine (HM.out _).mono ?_
    rintro e w5 ⟨rfl, hb5⟩
    have hbel := BA.out (.int .i64 qn) (.int .i64 qb)
    have B5 := hbel.trans (hb5.mono hbel.size)
    have hbn : -1152921504606846976 ≤ qn ∧ qn ≤ 1152921504606846976 := by omega
    clear HM hb5 hbel BA BC B4 z0 z1 z2 z3 z4 z5 z6 z7 f0 f1 zl hqn hqb 
    obtain ⟨nn, hnn⟩ : ∃ nn, nn = qn := ⟨_, rfl⟩
    subst hnn
    have R0 : Hid (RA w w5.heap.size (w5.heap.size + 1) [.int .i64 nn, .int .i64 qb, .float .f64 su, .float .f64 lo, .float .f64 lw, .float .f64 hi, .float .f64 me, .float .f64 sp] ((w5.alloc (.cells #[.int .i64 nn, .int .i64 qb, .float .f64 su, .float .f64 lo, .float .f64 lw, .float .f64 hi, .float .f64 me, .float .f64 sp] 29)).alloc (.cells #[.int .i64 nn, .int .i64 qb, .float .f64 su, .float .f64 lo, .float .f64 lw, .float .f64 hi, .float .f64 me, .float .f64 sp] 31))) := by
      have k6 := BlkL.new (w5.alloc (.cells #[.int .i64 nn, .int .i64 qb, .float .f64 su, .float .f64 lo, .float .f64 lw, .float .f64 hi, .float .f64 me, .float .f64 sp] 29)) [.int .i64 nn, .int .i64 qb, .float .f64 su, .float .f64 lo, .float .f64 lw, .float .f64 hi, .float .f64 me, .float .f64 sp] 31
      simp only [World.size_alloc] at k6
      exact Lib.hid ⟨(BlkL.new w5 [.int .i64 nn, .int .i64 qb, .float .f64 su, .float .f64 lo, .float .f64 lw, .float .f64 hi, .float .f64 me, .float .f64 sp] 29).alloc _, k6, (B5.alloc B5.size _).alloc (by simp; have := B5.size; omega) _⟩
    have ok0 : MV.Ok ⟨nn, qb, su, lo, lw, hi, me, sp⟩ := ⟨h0, h1, h2, h3, h4, h5⟩
    have HAP : Hid (∀ W z5 z6 X, RA w z5 z6 X W → Calls Try.prog 16 #[.agg #[.int .i64 nn, .int .i64 qb, .float .f64 su, .float .f64 lo, .float .f64 lw, .float .f64 hi, .float .f64 me, .float .f64 sp], .float .f64 x] W fun e w' => ∃ m : MV, e = .returned m.val ∧ m.Ok ∧ m.can = addC (MV.can ⟨nn, qb, su, lo, lw, hi, me, sp⟩) (canB x) ∧ RA w z5 z6 X w') :=
      Lib.hid fun W z5 z6 X hR => (addP_any W ⟨nn, qb, su, lo, lw, hi, me, sp⟩ x ok0 hx hbn.1 hbn.2 (by show _ ≤ qb; omega) (by show qb ≤ _; omega)).mono fun e w' ⟨m, a1, a2, a3, a4⟩ => ⟨m, a1, a2, a3, hR.below a4⟩
    have HAD : Hid (∀ W z5 z6 X, RA w z5 z6 X W → Calls Try.prog 18 #[.agg #[.int .i64 nn, .int .i64 qb, .float .f64 su, .float .f64 lo, .float .f64 lw, .float .f64 hi, .float .f64 me, .float .f64 sp], .float .f64 x] W fun e w' => ∃ m : MV, e = .returned m.val ∧ m.Ok ∧ m.can = addC (MV.can ⟨nn, qb, su, lo, lw, hi, me, sp⟩) (canB x) ∧ RA w z5 z6 X w') :=
      Lib.hid fun W z5 z6 X hR => (addD_any W ⟨nn, qb, su, lo, lw, hi, me, sp⟩ x ok0 hx hbn.1 hbn.2 (by show _ ≤ qb; omega) (by show qb ≤ _; omega)).mono fun e w' ⟨m, a1, a2, a3, a4⟩ => ⟨m, a1, a2, a3, hR.below a4⟩
    have HSM : Hid (∀ W z5 z6 X, RA w z5 z6 X W → ∀ ma mb : MV, ma.Ok → mb.Ok → ma.can = mb.can → Calls Try.prog 12 #[ma.val, mb.val] W fun e w' => e = .returned (.bool true) ∧ RA w z5 z6 X w') :=
      Lib.hid fun W z5 z6 X hR ma mb o1 o2 hc => (same8l_any W ma mb o1 o2 hc).mono fun e w' ⟨a1, a2⟩ => ⟨a1, hR.below a2⟩
    have HTP : Hid (∀ W z5 z6 X, RA w z5 z6 X W → Calls Try.prog 20 #[.agg #[.int .i64 nn, .int .i64 qb, .float .f64 su, .float .f64 lo, .float .f64 lw, .float .f64 hi, .float .f64 me, .float .f64 sp]] W fun e w' => ∃ v, e = .returned (.float .f64 v) ∧ v ≤ 18446744073709551615 ∧ canB v = totC (MV.can ⟨nn, qb, su, lo, lw, hi, me, sp⟩) ∧ RA w z5 z6 X w') :=
      Lib.hid fun W z5 z6 X hR => (totP_any W ⟨nn, qb, su, lo, lw, hi, me, sp⟩ ok0).mono fun e w' ⟨v, a1, a2, a3, a4⟩ => ⟨v, a1, a2, a3, hR.below a4⟩
    have HTD : Hid (∀ W z5 z6 X, RA w z5 z6 X W → Calls Try.prog 21 #[.agg #[.int .i64 nn, .int .i64 qb, .float .f64 su, .float .f64 lo, .float .f64 lw, .float .f64 hi, .float .f64 me, .float .f64 sp]] W fun e w' => ∃ v, e = .returned (.float .f64 v) ∧ v ≤ 18446744073709551615 ∧ canB v = totC (MV.can ⟨nn, qb, su, lo, lw, hi, me, sp⟩) ∧ RA w z5 z6 X w') :=
      Lib.hid fun W z5 z6 X hR => (totD_any W ⟨nn, qb, su, lo, lw, hi, me, sp⟩ ok0).mono fun e w' ⟨v, a1, a2, a3, a4⟩ => ⟨v, a1, a2, a3, hR.below a4⟩
    have HYS := Lib.hid (fun w a b (ha : a ≤ 18446744073709551615) (hb : b ≤ 18446744073709551615) (h : canB a = canB b) => same_yes w a b ha hb h)
    clear ok0 B5
    go_wp2
    generalize ((w5.alloc (.cells #[.int .i64 nn, .int .i64 qb, .float .f64 su, .float .f64 lo, .float .f64 lw, .float .f64 hi, .float .f64 me, .float .f64 sp] 29)).alloc (.cells #[.int .i64 nn, .int .i64 qb, .float .f64 su, .float .f64 lo, .float .f64 lw, .float .f64 hi, .float .f64 me, .float .f64 sp] 31)) = wA at *
    generalize w5.heap.size = zz at *
    have r0 := R0.out.drew
    clear R0
    go_region_held3 (fun w' => w'.cell? ⟨zz, 0, none⟩ = some (.int .i64 nn) ∧ w'.cell? ⟨zz, 1, none⟩ = some (.int .i64 qb) ∧ w'.cell? ⟨zz, 2, none⟩ = some (.float .f64 su) ∧ w'.cell? ⟨zz, 3, none⟩ = some (.float .f64 lo) ∧ w'.cell? ⟨zz, 4, none⟩ = some (.float .f64 lw) ∧ w'.cell? ⟨zz, 5, none⟩ = some (.float .f64 hi) ∧ w'.cell? ⟨zz, 6, none⟩ = some (.float .f64 me) ∧ w'.cell? ⟨zz, 7, none⟩ = some (.float .f64 sp) ∧ w'.cell? ⟨zz + 1, 0, none⟩ = some (.int .i64 nn) ∧ w'.cell? ⟨zz + 1, 1, none⟩ = some (.int .i64 qb) ∧ w'.cell? ⟨zz + 1, 2, none⟩ = some (.float .f64 su) ∧ w'.cell? ⟨zz + 1, 3, none⟩ = some (.float .f64 lo) ∧ w'.cell? ⟨zz + 1, 4, none⟩ = some (.float .f64 lw) ∧ w'.cell? ⟨zz + 1, 5, none⟩ = some (.float .f64 hi) ∧ w'.cell? ⟨zz + 1, 6, none⟩ = some (.float .f64 me) ∧ w'.cell? ⟨zz + 1, 7, none⟩ = some (.float .f64 sp))
      ((refine ⟨BlkL.cell (xs := [.int .i64 nn, .int .i64 qb, .float .f64 su, .float .f64 lo, .float .f64 lw, .float .f64 hi, .float .f64 me, .float .f64 sp]) ?_ 0 _ rfl, BlkL.cell (xs := [.int .i64 nn, .int .i64 qb, .float .f64 su, .float .f64 lo, .float .f64 lw, .float .f64 hi, .float .f64 me, .float .f64 sp]) ?_ 1 _ rfl, BlkL.cell (xs := [.int .i64 nn, .int .i64 qb, .float .f64 su, .float .f64 lo, .float .f64 lw, .float .f64 hi, .float .f64 me, .float .f64 sp]) ?_ 2 _ rfl, BlkL.cell (xs := [.int .i64 nn, .int .i64 qb, .float .f64 su, .float .f64 lo, .float .f64 lw, .float .f64 hi, .float .f64 me, .float .f64 sp]) ?_ 3 _ rfl, BlkL.cell (xs := [.int .i64 nn, .int .i64 qb, .float .f64 su, .float .f64 lo, .float .f64 lw, .float .f64 hi, .float .f64 me, .float .f64 sp]) ?_ 4 _ rfl, BlkL.cell (xs := [.int .i64 nn, .int .i64 qb, .float .f64 su, .float .f64 lo, .float .f64 lw, .float .f64 hi, .float .f64 me, .float .f64 sp]) ?_ 5 _ rfl, BlkL.cell (xs := [.int .i64 nn, .int .i64 qb, .float .f64 su, .float .f64 lo, .float .f64 lw, .float .f64 hi, .float .f64 me, .float .f64 sp]) ?_ 6 _ rfl, BlkL.cell (xs := [.int .i64 nn, .int .i64 qb, .float .f64 su, .float .f64 lo, .float .f64 lw, .float .f64 hi, .float .f64 me, .float .f64 sp]) ?_ 7 _ rfl, BlkL.cell (xs := [.int .i64 nn, .int .i64 qb, .float .f64 su, .float .f64 lo, .float .f64 lw, .float .f64 hi, .float .f64 me, .float .f64 sp]) ?_ 0 _ rfl, BlkL.cell (xs := [.int .i64 nn, .int .i64 qb, .float .f64 su, .float .f64 lo, .float .f64 lw, .float .f64 hi, .float .f64 me, .float .f64 sp]) ?_ 1 _ rfl, BlkL.cell (xs := [.int .i64 nn, .int .i64 qb, .float .f64 su, .float .f64 lo, .float .f64 lw, .float .f64 hi, .float .f64 me, .float .f64 sp]) ?_ 2 _ rfl, BlkL.cell (xs := [.int .i64 nn, .int .i64 qb, .float .f64 su, .float .f64 lo, .float .f64 lw, .float .f64 hi, .float .f64 me, .float .f64 sp]) ?_ 3 _ rfl, BlkL.cell (xs := [.int .i64 nn, .int .i64 qb, .float .f64 su, .float .f64 lo, .float .f64 lw, .float .f64 hi, .float .f64 me, .float .f64 sp]) ?_ 4 _ rfl, BlkL.cell (xs := [.int .i64 nn, .int .i64 qb, .float .f64 su, .float .f64 lo, .float .f64 lw, .float .f64 hi, .float .f64 me, .float .f64 sp]) ?_ 5 _ rfl, BlkL.cell (xs := [.int .i64 nn, .int .i64 qb, .float .f64 su, .float .f64 lo, .float .f64 lw, .float .f64 hi, .float .f64 me, .float .f64 sp]) ?_ 6 _ rfl, BlkL.cell (xs := [.int .i64 nn, .int .i64 qb, .float .f64 su, .float .f64 lo, .float .f64 lw, .float .f64 hi, .float .f64 me, .float .f64 sp]) ?_ 7 _ rfl⟩ <;> first | (with_reducible exact RA.k5 (by assumption)) | (with_reducible exact RA.k6 (by assumption))))
      (first
        | ((with_reducible refine (HOF.out _ _).mono ?_); rintro e wx ⟨rfl, rfl⟩)
        | ((with_reducible refine (HAP.out _ _ _ _ (by assumption)).mono ?_); rintro e wp ⟨ma, rfl, oka, ca, rp⟩)
        | ((with_reducible refine (HAD.out _ _ _ _ (by assumption)).mono ?_); rintro e wd ⟨mb, rfl, okb, cb, rd⟩)
        | ((with_reducible refine (HSM.out _ _ _ _ (by assumption) ma mb oka okb (ca.trans cb.symm)).mono ?_); rintro e ws ⟨rfl, rs⟩)
        | ((with_reducible refine (HTP.out _ _ _ _ (by assumption)).mono ?_); rintro e wt ⟨vp, rfl, lvp, cvp, rtp⟩)
        | ((with_reducible refine (HTD.out _ _ _ _ (by assumption)).mono ?_); rintro e wu ⟨vd, rfl, lvd, cvd, rtd⟩)
        | ((with_reducible refine (HYS.out _ vp vd lvp lvd (cvp.trans cvd.symm)).mono ?_); rintro e wy ⟨rfl, rfl⟩))
    all_goals
      go_wp2
      go_ret
      exact ⟨rfl, RA.bel (by assumption)⟩
end Go.Proofs.Ytffibfnagoagcaa
