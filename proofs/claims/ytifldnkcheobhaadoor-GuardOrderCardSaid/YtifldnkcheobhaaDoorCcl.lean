/- CauseClasses: its walk. -/
import Derived.Test.YtifldnkcheobhaaDoorLwB
namespace Go.Proofs.YtifldnkcheobhaaDoor
open Go.RowKit
set_option maxRecDepth 100000
set_option linter.unusedVariables false
set_option linter.unusedSimpArgs false
set_option maxHeartbeats 4000000

theorem eqEnd (a b : Int) (w : World) : (binOp .eql 26 (.agg #[.int .u8 a, .int .i64 b]) (.agg #[.int .u8 a, .int .i64 b])).run Tryd.prog w = .ok (.bool true) w := by simp [go_sem, Result.andThen]
theorem neqEnd (a b : Int) (w : World) : (binOp .neq 26 (.agg #[.int .u8 a, .int .i64 b]) (.agg #[.int .u8 a, .int .i64 b])).run Tryd.prog w = .ok (.bool false) w := by simp [go_sem, Result.andThen]
theorem eqMark (a b c : Int) (w : World) : (binOp .eql 36 (.agg #[.int .u8 a, .int .u8 b, .int .i64 c]) (.agg #[.int .u8 a, .int .u8 b, .int .i64 c])).run Tryd.prog w = .ok (.bool true) w := by simp [go_sem, Result.andThen]
theorem neqMark (a b c : Int) (w : World) : (binOp .neq 36 (.agg #[.int .u8 a, .int .u8 b, .int .i64 c]) (.agg #[.int .u8 a, .int .u8 b, .int .i64 c])).run Tryd.prog w = .ok (.bool false) w := by simp [go_sem, Result.andThen]
theorem causeClasses_walk {w0 : World} (cl : Nat) (n : Int) (w : World) (h0 : Lib0 w0) (hb : Below w0.heap.size w0 w) (hcl : cl < 256) (hn1 : -9223372036854775808 ≤ n) (hn2 : n ≤ 9223372036854775807) :
    Calls Tryd.prog 3 #[.int .u8 (cl : Int), .int .i64 n] w fun e w' => e = .returned (.bool true) ∧ Below w.heap.size w w' := by
  have HA := Lib.hid (awake9_any h0 hb)
  have H0 := Lib.hid h0
  have HB := Lib.hid hb
  obtain ⟨K, hK⟩ : ∃ K, 11 + cl % 14 = K := ⟨_, rfl⟩
  obtain ⟨m, hm⟩ : ∃ m, (endV K n).2 = m := ⟨_, rfl⟩
  have hK1 : 11 ≤ K ∧ K ≤ 24 := by omega
  have HRA : Hid (∀ W, Calls Tryd.prog 12 #[.int .u8 (cl : Int), .int .i64 n] W fun e w' => e = .returned (.tuple #[.agg #[.int .u8 (K : Int), .int .i64 n], .agg #[.int .u8 (K : Int), .int .i64 m]]) ∧ Below W.heap.size W w') := Lib.hid (fun W => raises_any W cl K n m hcl hK.symm hm.symm)
  have q1 := neqEnd (K : Int) m
  have q2 := eqEnd 0 0
  have q3 := eqMark 5 (K : Int) m
  have HM := Lib.hid hm
  have hk1 : ¬ K = 1 := by omega
  have hk2 : ¬ K = 2 := by omega
  have hk3 : ¬ K = 3 := by omega
  have hk4 : ¬ K = 4 := by omega
  have hk5 : ¬ K = 5 := by omega
  have HK := Lib.hid (And.intro hk1 (And.intro hk2 (And.intro hk3 (And.intro hk4 hk5))))
  clear h0 hb hK hm hk1 hk2 hk3 hk4 hk5 hcl
  go_enter Tryd.func3, Tryd.ntmps3
  go_wp2_with fail
  with_reducible refine HA.out.mono ?_
  rintro e w1 ⟨rfl, hb1⟩
  have HB1 := Lib.hid hb1
  clear hb1
  go_wp2_with fail
  with_reducible refine (HRA.out w1).mono ?_
  rintro e w2 ⟨rfl, hb2⟩
  have B2 : Below w.heap.size w w2 := HB1.out.trans (hb2.mono HB1.out.size)
  have l2 := B2.size
  have B3 : Below w.heap.size w ((w2.alloc (.cells #[.int .u8 (K : Int), .int .i64 n] 24)).alloc (.cells #[.int .u8 (K : Int), .int .i64 m] 26)) := (B2.alloc l2 _).alloc (by simp <;> omega) _
  have k5 := (BlkL.new w2 [.int .u8 (K : Int), .int .i64 n] 24).alloc (.cells #[.int .u8 (K : Int), .int .i64 m] 26)
  have k6 := BlkL.new (w2.alloc (.cells #[.int .u8 (K : Int), .int .i64 n] 24)) [.int .u8 (K : Int), .int .i64 m] 26
  rw [show (w2.alloc (.cells #[.int .u8 (K : Int), .int .i64 n] 24)).heap.size = w2.heap.size + 1 by simp] at k6
  go_upto_region 4 with (fail)
  revert B3 k5 k6
  generalize (w2.alloc (.cells #[.int .u8 (K : Int), .int .i64 n] 24)).alloc (.cells #[.int .u8 (K : Int), .int .i64 m] 26) = w3
  generalize w2.heap.size = p5
  intro B3 k5 k6
  have HB3 := Lib.hid B3
  have K5 := Lib.hid k5
  have K6 := Lib.hid k6
  have u0 := k5.cell 0 _ rfl
  have u1 := k5.cell 1 _ rfl
  have ul := k5.lt
  have vl := k6.lt
  clear B2 l2 hb2 B3 k5 k6
  obtain ⟨Wa, hWa⟩ : ∃ W, ((w3.alloc (.cells #[.int .u8 (K : Int), .int .i64 n, .int .u8 1, .int .i64 1] 24)).alloc (.cells #[.slice (some ⟨w3.heap.size, 0, none⟩) 2 2] 33)) = W := ⟨_, rfl⟩
  have qa0 : BlkL Wa (w3.heap.size) [.int .u8 (K : Int), .int .i64 n, .int .u8 1, .int .i64 1] := by
    rw [← hWa]
    have := BlkL.new w3 [.int .u8 (K : Int), .int .i64 n, .int .u8 1, .int .i64 1] 24
    rw [show w3.heap.size = w3.heap.size by simp] at this
    exact (this).alloc _
  have qao : BlkL Wa (w3.heap.size + 1) [.slice (some ⟨w3.heap.size, 0, none⟩) 2 2] := by
    rw [← hWa]
    have := BlkL.new (w3.alloc (.cells #[.int .u8 (K : Int), .int .i64 n, .int .u8 1, .int .i64 1] 24)) [.slice (some ⟨w3.heap.size, 0, none⟩) 2 2] 33
    rw [show (w3.alloc (.cells #[.int .u8 (K : Int), .int .i64 n, .int .u8 1, .int .i64 1] 24)).heap.size = w3.heap.size + 1 by simp] at this
    exact this
  have bWa : Below w3.heap.size w3 Wa := by
    rw [← hWa]
    exact (((Below.refl w3.heap.size w3).alloc (by simp <;> omega) _).alloc (by simp <;> omega) _)
  have HRa : Hid (Calls Tryd.prog 13 #[.slice (some ⟨w3.heap.size + 1, 0, none⟩) 1 1] Wa (RunM Wa 0 (K : Int) m [])) := Lib.hid (run_litM H0.out (HB.out.trans ((HB3.out.trans (bWa.mono HB3.out.size)).mono HB.out.size)) (w3.heap.size + 1) [(w3.heap.size, [(K, n), (1, 1)])] qao (by
      intro q hq
      simp only [List.mem_cons, List.not_mem_nil, or_false] at hq
      rcases hq with rfl
      · exact qa0
      ) (by simp) (by simp) (by simp [AllOk, ActOk]; omega) 0 (K : Int) m [] (by obtain ⟨k1, k2, k3, k4, k5⟩ := HK.out; simp [runP, runV, actsV, leaveV, CaS.burn, CaS.mark, noneV, k1, k2, k3, k4, k5]) rfl (by obtain ⟨k1, k2, k3, k4, k5⟩ := HK.out; simp [runP, runV, actsV, leaveV, CaS.burn, CaS.mark, noneV, k1, k2, k3, k4, k5, endV]) (by have hm := HM.out; obtain ⟨k1, k2, k3, k4, k5⟩ := HK.out; simp [runP, runV, actsV, leaveV, CaS.burn, CaS.mark, noneV, k1, k2, k3, k4, k5, hm]))
  have HWa := Lib.hid bWa
  clear qa0 qao
  clear bWa
  go_wp2_with fail
  with_reducible refine HRa.out.mono ?_
  intro e w4 hE
  obtain ⟨A4, c4, rfl, ho4, hb4⟩ := hE
  have B4 : Below w.heap.size w w4 := (HB3.out.trans (HWa.out.mono HB3.out.size)).trans (hb4.mono (by have := HWa.out.size; have := HB3.out.size; omega))
  have hw34 : Below w3.heap.size w3 w4 := HWa.out.trans (hb4.mono HWa.out.size)
  have k5 := (K5.out.below hw34)
  have k6 := (K6.out.below hw34)
  have HB4 := Lib.hid B4
  have K54 := Lib.hid k5
  have K64 := Lib.hid k6
  have s0 := k5.cell 0 _ rfl
  have s1 := k5.cell 1 _ rfl
  have t0 := k6.cell 0 _ rfl
  have t1 := k6.cell 1 _ rfl
  have sl := k5.lt
  have tl := k6.lt
  clear ho4 hb4
  have k8 := BlkL.new w4 [.int .u8 (K : Int), .int .i64 m] 26
  have b5 := (Below.refl w4.heap.size w4).alloc (Nat.le_refl _) (.cells #[.int .u8 (K : Int), .int .i64 m] 26)
  have k55 := k5.below b5
  have k65 := k6.below b5
  have B5 := B4.alloc B4.size (.cells #[.int .u8 (K : Int), .int .i64 m] 26)
  have hp5 : p5 + 1 < w4.heap.size := k6.lt
  have hp8 : w.heap.size ≤ w4.heap.size := B4.size
  clear B4 hw34 k5 k6 b5
  go_upto_region 7 with (fail)
  revert k8 k55 k65 B5 hp5 hp8
  generalize w4.alloc (.cells #[.int .u8 (K : Int), .int .i64 m] 26) = w5
  generalize w4.heap.size = p8
  intro k8 k55 k65 B5 hp5 hp8
  have HB5 := Lib.hid B5
  have K55 := Lib.hid k55
  have K65 := Lib.hid k65
  have K85 := Lib.hid k8
  clear s0 s1 t0 t1 sl tl
  have s0 := k55.cell 0 _ rfl
  have s1 := k55.cell 1 _ rfl
  have sl := k55.lt
  have tl := k65.lt
  have xl := k8.lt
  clear k8 k55 k65 B5
  obtain ⟨Wb, hWb⟩ : ∃ W, (((w5.alloc (.cells #[.int .u8 3, .int .i64 1, .int .u8 (K : Int), .int .i64 n] 24)).alloc (.cells #[.int .u8 5, .int .i64 0] 24)).alloc (.cells #[.slice (some ⟨w5.heap.size, 0, none⟩) 2 2, .slice (some ⟨w5.heap.size + 1, 0, none⟩) 1 1] 33)) = W := ⟨_, rfl⟩
  have qb0 : BlkL Wb (w5.heap.size) [.int .u8 3, .int .i64 1, .int .u8 (K : Int), .int .i64 n] := by
    rw [← hWb]
    have := BlkL.new w5 [.int .u8 3, .int .i64 1, .int .u8 (K : Int), .int .i64 n] 24
    rw [show w5.heap.size = w5.heap.size by simp] at this
    exact ((this).alloc _).alloc _
  have qb1 : BlkL Wb (w5.heap.size + 1) [.int .u8 5, .int .i64 0] := by
    rw [← hWb]
    have := BlkL.new (w5.alloc (.cells #[.int .u8 3, .int .i64 1, .int .u8 (K : Int), .int .i64 n] 24)) [.int .u8 5, .int .i64 0] 24
    rw [show (w5.alloc (.cells #[.int .u8 3, .int .i64 1, .int .u8 (K : Int), .int .i64 n] 24)).heap.size = w5.heap.size + 1 by simp] at this
    exact (this).alloc _
  have qbo : BlkL Wb (w5.heap.size + 1 + 1) [.slice (some ⟨w5.heap.size, 0, none⟩) 2 2, .slice (some ⟨w5.heap.size + 1, 0, none⟩) 1 1] := by
    rw [← hWb]
    have := BlkL.new ((w5.alloc (.cells #[.int .u8 3, .int .i64 1, .int .u8 (K : Int), .int .i64 n] 24)).alloc (.cells #[.int .u8 5, .int .i64 0] 24)) [.slice (some ⟨w5.heap.size, 0, none⟩) 2 2, .slice (some ⟨w5.heap.size + 1, 0, none⟩) 1 1] 33
    rw [show ((w5.alloc (.cells #[.int .u8 3, .int .i64 1, .int .u8 (K : Int), .int .i64 n] 24)).alloc (.cells #[.int .u8 5, .int .i64 0] 24)).heap.size = w5.heap.size + 1 + 1 by simp] at this
    exact this
  have bWb : Below w5.heap.size w5 Wb := by
    rw [← hWb]
    exact ((((Below.refl w5.heap.size w5).alloc (by simp <;> omega) _).alloc (by simp <;> omega) _).alloc (by simp <;> omega) _)
  have HRb : Hid (Calls Tryd.prog 13 #[.slice (some ⟨w5.heap.size + 1 + 1, 0, none⟩) 2 2] Wb (RunM Wb 1 0 0 [(5, K, m)])) := Lib.hid (run_litM H0.out (HB.out.trans ((HB5.out.trans (bWb.mono HB5.out.size)).mono HB.out.size)) (w5.heap.size + 1 + 1) [(w5.heap.size, [(3, 1), (K, n)]), (w5.heap.size + 1, [(5, 0)])] qbo (by
      intro q hq
      simp only [List.mem_cons, List.not_mem_nil, or_false] at hq
      rcases hq with rfl | rfl
      · exact qb0
      · exact qb1
      ) (by simp) (by simp) (by simp [AllOk, ActOk]; omega) 1 0 0 [(5, K, m)] (by obtain ⟨k1, k2, k3, k4, k5⟩ := HK.out; have hm := HM.out; have he : endV K n = (K, m) := (by rw [← hm]; rfl); simp [runP, runV, actsV, leaveV, CaS.burn, CaS.mark, noneV, k1, k2, k3, k4, k5, he]) rfl (by obtain ⟨k1, k2, k3, k4, k5⟩ := HK.out; have hm := HM.out; have he : endV K n = (K, m) := (by rw [← hm]; rfl); simp [runP, runV, actsV, leaveV, CaS.burn, CaS.mark, noneV, k1, k2, k3, k4, k5, he]) (by obtain ⟨k1, k2, k3, k4, k5⟩ := HK.out; have hm := HM.out; have he : endV K n = (K, m) := (by rw [← hm]; rfl); simp [runP, runV, actsV, leaveV, CaS.burn, CaS.mark, noneV, k1, k2, k3, k4, k5, he]))
  have HWb := Lib.hid bWb
  clear qb0 qb1 qbo bWb
  go_wp2_with fail
  with_reducible refine HRb.out.mono ?_
  intro e w6 hE
  obtain ⟨A6, c6, rfl, ho6, hb6⟩ := hE
  have hw56 : Below w5.heap.size w5 w6 := HWb.out.trans (hb6.mono HWb.out.size)
  have B6 : Below w.heap.size w w6 := HB5.out.trans (hw56.mono HB5.out.size)
  obtain ⟨mb, mo, rfl, hmb, hmbl, hmc, _⟩ := ho6.cell (by omega)
  have hwb := HWb.out.size
  have y8 := K85.out.below hw56
  have y6 := K65.out.below hw56
  have z0 := y8.cell 0 _ rfl
  have z1 := y8.cell 1 _ rfl
  have zf0 := y8.froz 0 (by simp)
  have zf1 := y8.froz 1 (by simp)
  have zl := y8.lt
  have v0 := y6.cell 0 _ rfl
  have v1 := y6.cell 1 _ rfl
  have vl := y6.lt
  have c0 : w6.cell? ⟨mb, mo, none⟩ = some (.int .u8 5) := hmc 0 _ rfl
  have c1 : w6.cell? ⟨mb, mo + 1, none⟩ = some (.int .u8 (K : Int)) := hmc 1 _ rfl
  have c2 : w6.cell? ⟨mb, mo + 2, none⟩ = some (.int .i64 m) := hmc 2 _ rfl
  have n1 : ¬ p8 = mb := by omega
  have n2 : ¬ p8 = p5 + 1 := by omega
  have n3 : ¬ mb = p8 := by omega
  have n4 : ¬ p5 + 1 = p8 := by omega
  have HB6 := Lib.hid B6
  have y87 := (y8.set 0 (.int .u8 0) (by simp)).set 1 (.int .i64 0) (by simp)
  have y67 := (y6.other p8 0 (.int .u8 0) (by omega)).other p8 1 (.int .i64 0) (by omega)
  have mk7 : ∀ (j : Nat) (u : Value), w6.cell? ⟨mb, mo + j, none⟩ = some u → ((w6.setCell ⟨p8, 0, none⟩ (.int .u8 0)).setCell ⟨p8, 1, none⟩ (.int .i64 0)).cell? ⟨mb, mo + j, none⟩ = some u := by
    intro j u hu
    rw [World.cell?_setCell_other _ _ _ _ (by simp <;> omega), World.cell?_setCell_other _ _ _ _ (by simp <;> omega)]
    exact hu
  have c07 := mk7 0 _ c0
  have c17 := mk7 1 _ c1
  have c27 := mk7 2 _ c2
  have HB7 := Lib.hid (below_put2 HB6.out hp8 (.int .u8 0) (.int .i64 0))
  clear y8 y6 hmc ho6 hb6 hw56 B6 mk7
  go_upto_region 8 with (fail)
  revert y87 y67 c07 c17 c27 HB7
  generalize (w6.setCell ⟨p8, 0, none⟩ (.int .u8 0)).setCell ⟨p8, 1, none⟩ (.int .i64 0) = w7
  intro y87 y67 c07 c17 c27 HB7
  clear z0 z1 zf0 zf1 zl v0 v1 vl c0 c1 c2
  have z0 := y87.cell 0 _ rfl
  have z1 := y87.cell 1 _ rfl
  have v0 := y67.cell 0 _ rfl
  have v1 := y67.cell 1 _ rfl
  have c07' : w7.cell? ⟨mb, mo, none⟩ = some (.int .u8 5) := c07
  clear y87 y67 c07
  go_region
  go_wp2
  go_ret
  exact ⟨rfl, HB7.out.drew⟩
end Go.Proofs.YtifldnkcheobhaaDoor
