/- CauseLast: its walk. -/
import Derived.Test.YtoanpcnkaoigpaaDoorCcl
import Derived.BigQuiet
namespace Go.Proofs.YtoanpcnkaoigpaaDoor
open Go.RowKit
set_option maxRecDepth 100000
set_option linter.unusedVariables false
set_option linter.unusedSimpArgs false
set_option maxHeartbeats 4000000

theorem causeLast_walk {w0 : World} (c d : Nat) (n k : Int) (w : World) (h0 : Lib0 w0) (hb : Below w0.heap.size w0 w) (hc : c < 256) (hd : d < 256) (hn1 : -9223372036854775808 ≤ n) (hn2 : n ≤ 9223372036854775807) (hk1 : -9223372036854775808 ≤ k) (hk2 : k ≤ 9223372036854775807) :
    Calls Tryd.prog 4 #[.int .u8 (c : Int), .int .u8 (d : Int), .int .i64 n, .int .i64 k] w fun e w' => e = .returned (.bool true) ∧ Below w.heap.size w w' := by
  have HA := Lib.hid (awake9_any h0 hb)
  have H0 := Lib.hid h0
  have HB := Lib.hid hb
  obtain ⟨K, hK⟩ : ∃ K, 11 + c % 14 = K := ⟨_, rfl⟩
  obtain ⟨m, hm⟩ : ∃ m, (endV K n).2 = m := ⟨_, rfl⟩
  obtain ⟨J, hJ⟩ : ∃ J, 11 + d % 14 = J := ⟨_, rfl⟩
  obtain ⟨j, hj⟩ : ∃ j, (endV J k).2 = j := ⟨_, rfl⟩
  have hK1 : 11 ≤ K ∧ K ≤ 24 := by omega
  have hJ1 : 11 ≤ J ∧ J ≤ 24 := by omega
  have HRA : Hid (∀ W, Calls Tryd.prog 12 #[.int .u8 (c : Int), .int .i64 n] W fun e w' => e = .returned (.tuple #[.agg #[.int .u8 (K : Int), .int .i64 n], .agg #[.int .u8 (K : Int), .int .i64 m]]) ∧ Below W.heap.size W w') := Lib.hid (fun W => raises_any W c K n m hc hK.symm hm.symm)
  have HRB : Hid (∀ W, Calls Tryd.prog 12 #[.int .u8 (d : Int), .int .i64 k] W fun e w' => e = .returned (.tuple #[.agg #[.int .u8 (J : Int), .int .i64 k], .agg #[.int .u8 (J : Int), .int .i64 j]]) ∧ Below W.heap.size W w') := Lib.hid (fun W => raises_any W d J k j hd hJ.symm hj.symm)
  have q1 := neqEnd (J : Int) j
  have q2 := neqEnd 0 0
  have q3 := eqEnd (K : Int) m
  have q4 := neqMark 5 (J : Int) j
  have q5 := neqMark 5 0 0
  have HEK := Lib.hid (show endV K n = (K, m) by rw [← hm]; rfl)
  have HEJ := Lib.hid (show endV J k = (J, j) by rw [← hj]; rfl)
  have HK : Hid (¬ K = 1 ∧ ¬ K = 2 ∧ ¬ K = 3 ∧ ¬ K = 4 ∧ ¬ K = 5) := Lib.hid (by omega)
  have HJ : Hid (¬ J = 1 ∧ ¬ J = 2 ∧ ¬ J = 3 ∧ ¬ J = 4 ∧ ¬ J = 5) := Lib.hid (by omega)
  clear h0 hb hK hm hJ hj hc hd
  go_enter Tryd.func4, Tryd.ntmps4
  go_wp2_with fail
  with_reducible refine HA.out.mono ?_
  rintro e w1 ⟨rfl, hb1⟩
  have HB1 := Lib.hid hb1
  clear hb1
  go_wp2_with fail
  with_reducible refine (HRA.out w1).mono ?_
  rintro e w2 ⟨rfl, hb2⟩
  have B2 : Below w.heap.size w w2 := HB1.out.trans (hb2.mono HB1.out.size)
  have l2 := B2.size
  have B3 : Below w.heap.size w ((w2.alloc (.cells #[.int .u8 (K : Int), .int .i64 n] 24)).alloc (.cells #[.int .u8 (K : Int), .int .i64 m] 26)) := (B2.alloc l2 _).alloc (by simp <;> omega) _
  have k5 := (BlkL.new w2 [.int .u8 (K : Int), .int .i64 n] 24).alloc (.cells #[.int .u8 (K : Int), .int .i64 m] 26)
  have k6 := BlkL.new (w2.alloc (.cells #[.int .u8 (K : Int), .int .i64 n] 24)) [.int .u8 (K : Int), .int .i64 m] 26
  rw [show (w2.alloc (.cells #[.int .u8 (K : Int), .int .i64 n] 24)).heap.size = w2.heap.size + 1 by simp] at k6
  go_upto_region 4 with (fail)
  revert B3 k5 k6 
  generalize (w2.alloc (.cells #[.int .u8 (K : Int), .int .i64 n] 24)).alloc (.cells #[.int .u8 (K : Int), .int .i64 m] 26) = w3
  generalize w2.heap.size = p9
  intro B3 k5 k6 
  have HB3 := Lib.hid B3
  have K9 := Lib.hid k5
  have K10 := Lib.hid k6
  clear B2 l2 hb2 B3 k5 k6
  go_wp2_with fail
  with_reducible refine (HRB.out w3).mono ?_
  rintro e w4 ⟨rfl, hb4⟩
  have B2 : Below w.heap.size w w4 := HB3.out.trans (hb4.mono HB3.out.size)
  have l2 := B2.size
  have k9 := K9.out.below hb4
  have k10 := K10.out.below hb4
  have B3 : Below w.heap.size w ((w4.alloc (.cells #[.int .u8 (J : Int), .int .i64 k] 24)).alloc (.cells #[.int .u8 (J : Int), .int .i64 j] 26)) := (B2.alloc l2 _).alloc (by simp <;> omega) _
  have k5 := (BlkL.new w4 [.int .u8 (J : Int), .int .i64 k] 24).alloc (.cells #[.int .u8 (J : Int), .int .i64 j] 26)
  have k6 := BlkL.new (w4.alloc (.cells #[.int .u8 (J : Int), .int .i64 k] 24)) [.int .u8 (J : Int), .int .i64 j] 26
  rw [show (w4.alloc (.cells #[.int .u8 (J : Int), .int .i64 k] 24)).heap.size = w4.heap.size + 1 by simp] at k6
  have nk9 := (k9.alloc (.cells #[.int .u8 (J : Int), .int .i64 k] 24)).alloc (.cells #[.int .u8 (J : Int), .int .i64 j] 26)
  have nk10 := (k10.alloc (.cells #[.int .u8 (J : Int), .int .i64 k] 24)).alloc (.cells #[.int .u8 (J : Int), .int .i64 j] 26)
  go_upto_region 5 with (fail)
  revert B3 k5 k6 nk9 nk10
  generalize (w4.alloc (.cells #[.int .u8 (J : Int), .int .i64 k] 24)).alloc (.cells #[.int .u8 (J : Int), .int .i64 j] 26) = w5
  generalize w4.heap.size = p11
  intro B3 k5 k6 nk9 nk10
  have HB5 := Lib.hid B3
  have u0 := nk9.cell 0 _ rfl
  have u1 := nk9.cell 1 _ rfl
  have ul := nk9.lt
  have v0 := k5.cell 0 _ rfl
  have v1 := k5.cell 1 _ rfl
  have vl := k5.lt
  have K95 := Lib.hid nk9
  have K105 := Lib.hid nk10
  have K115 := Lib.hid k5
  have K125 := Lib.hid k6
  clear B2 l2 hb4 B3 k9 k10 nk9 nk10 k5 k6
  obtain ⟨Wa, hWa⟩ : ∃ W, (((w5.alloc (.cells #[.int .u8 3, .int .i64 1, .int .u8 (K : Int), .int .i64 n] 24)).alloc (.cells #[.int .u8 (J : Int), .int .i64 k] 24)).alloc (.cells #[.slice (some ⟨w5.heap.size, 0, none⟩) 2 2, .slice (some ⟨w5.heap.size + 1, 0, none⟩) 1 1] 33)) = W := ⟨_, rfl⟩
  have qa0 : BlkL Wa (w5.heap.size) [.int .u8 3, .int .i64 1, .int .u8 (K : Int), .int .i64 n] := by
    rw [← hWa]
    have := BlkL.new w5 [.int .u8 3, .int .i64 1, .int .u8 (K : Int), .int .i64 n] 24
    rw [show w5.heap.size = w5.heap.size by simp] at this
    exact ((this).alloc _).alloc _
  have qa1 : BlkL Wa (w5.heap.size + 1) [.int .u8 (J : Int), .int .i64 k] := by
    rw [← hWa]
    have := BlkL.new (w5.alloc (.cells #[.int .u8 3, .int .i64 1, .int .u8 (K : Int), .int .i64 n] 24)) [.int .u8 (J : Int), .int .i64 k] 24
    rw [show (w5.alloc (.cells #[.int .u8 3, .int .i64 1, .int .u8 (K : Int), .int .i64 n] 24)).heap.size = w5.heap.size + 1 by simp] at this
    exact (this).alloc _
  have qao : BlkL Wa (w5.heap.size + 1 + 1) [.slice (some ⟨w5.heap.size, 0, none⟩) 2 2, .slice (some ⟨w5.heap.size + 1, 0, none⟩) 1 1] := by
    rw [← hWa]
    have := BlkL.new ((w5.alloc (.cells #[.int .u8 3, .int .i64 1, .int .u8 (K : Int), .int .i64 n] 24)).alloc (.cells #[.int .u8 (J : Int), .int .i64 k] 24)) [.slice (some ⟨w5.heap.size, 0, none⟩) 2 2, .slice (some ⟨w5.heap.size + 1, 0, none⟩) 1 1] 33
    rw [show ((w5.alloc (.cells #[.int .u8 3, .int .i64 1, .int .u8 (K : Int), .int .i64 n] 24)).alloc (.cells #[.int .u8 (J : Int), .int .i64 k] 24)).heap.size = w5.heap.size + 1 + 1 by simp] at this
    exact this
  have bWa : Below w5.heap.size w5 Wa := by
    rw [← hWa]
    exact ((((Below.refl w5.heap.size w5).alloc (by simp <;> omega) _).alloc (by simp <;> omega) _).alloc (by simp <;> omega) _)
  have HRa : Hid (Calls Tryd.prog 13 #[.slice (some ⟨w5.heap.size + 1 + 1, 0, none⟩) 2 2] Wa (RunM Wa 0 (J : Int) j [])) := Lib.hid (run_litM H0.out (HB.out.trans ((HB5.out.trans (bWa.mono HB5.out.size)).mono HB.out.size)) (w5.heap.size + 1 + 1) [(w5.heap.size, [(3, 1), (K, n)]), (w5.heap.size + 1, [(J, k)])] qao (by
      intro q hq
      simp only [List.mem_cons, List.not_mem_nil, or_false] at hq
      rcases hq with rfl | rfl
      · exact qa0
      · exact qa1
      ) (by simp) (by simp) (by simp [AllOk, ActOk]; omega) 0 (J : Int) j [] (by obtain ⟨k1, k2, k3, k4, k5⟩ := HK.out; obtain ⟨j1, j2, j3, j4, j5⟩ := HJ.out; have he := HEK.out; have hf := HEJ.out; simp [runP, runV, actsV, leaveV, CaS.burn, CaS.mark, noneV, k1, k2, k3, k4, k5, j1, j2, j3, j4, j5, he, hf]) rfl (by obtain ⟨k1, k2, k3, k4, k5⟩ := HK.out; obtain ⟨j1, j2, j3, j4, j5⟩ := HJ.out; have he := HEK.out; have hf := HEJ.out; simp [runP, runV, actsV, leaveV, CaS.burn, CaS.mark, noneV, k1, k2, k3, k4, k5, j1, j2, j3, j4, j5, he, hf]) (by obtain ⟨k1, k2, k3, k4, k5⟩ := HK.out; obtain ⟨j1, j2, j3, j4, j5⟩ := HJ.out; have he := HEK.out; have hf := HEJ.out; simp [runP, runV, actsV, leaveV, CaS.burn, CaS.mark, noneV, k1, k2, k3, k4, k5, j1, j2, j3, j4, j5, he, hf]))
  have HWa := Lib.hid bWa
  clear qa0 qa1 qao bWa
  go_wp2_with fail
  with_reducible refine HRa.out.mono ?_
  intro e w6 hE
  obtain ⟨A6, c6, rfl, ho6, hb6⟩ := hE
  have hw56 : Below w5.heap.size w5 w6 := HWa.out.trans (hb6.mono HWa.out.size)
  have B6 : Below w.heap.size w w6 := HB5.out.trans (hw56.mono HB5.out.size)
  have k9 := K95.out.below hw56
  have k10 := K105.out.below hw56
  have k11 := K115.out.below hw56
  have k12 := K125.out.below hw56
  clear u0 u1 ul v0 v1 vl
  have s0 := k12.cell 0 _ rfl
  have s1 := k12.cell 1 _ rfl
  have sl := k12.lt
  have k14 := BlkL.new w6 [.int .u8 (J : Int), .int .i64 j] 26
  have n9 := k9.alloc (.cells #[.int .u8 (J : Int), .int .i64 j] 26)
  have n10 := k10.alloc (.cells #[.int .u8 (J : Int), .int .i64 j] 26)
  have n11 := k11.alloc (.cells #[.int .u8 (J : Int), .int .i64 j] 26)
  have n12 := k12.alloc (.cells #[.int .u8 (J : Int), .int .i64 j] 26)
  have B7 := B6.alloc B6.size (.cells #[.int .u8 (J : Int), .int .i64 j] 26)
  have h9 : p9 < w6.heap.size := k9.lt
  have h10 : p9 + 1 < w6.heap.size := k10.lt
  have h11 : p11 < w6.heap.size := k11.lt
  have h12 : p11 + 1 < w6.heap.size := k12.lt
  have hp14 : w.heap.size ≤ w6.heap.size := B6.size
  clear B6 hw56 k9 k10 k11 k12 ho6 hb6
  go_upto_region 8 with (fail)
  revert k14 n9 n10 n11 n12 B7 h9 h10 h11 h12 hp14
  generalize w6.alloc (.cells #[.int .u8 (J : Int), .int .i64 j] 26) = w7
  generalize w6.heap.size = p14
  intro k14 n9 n10 n11 n12 B7 h9 h10 h11 h12 hp14
  have HB7 := Lib.hid B7
  have K97 := Lib.hid n9
  have K107 := Lib.hid n10
  have K117 := Lib.hid n11
  have K127 := Lib.hid n12
  have K147 := Lib.hid k14
  have H14 := Lib.hid hp14
  clear s0 s1 sl
  have u0 := n9.cell 0 _ rfl
  have u1 := n9.cell 1 _ rfl
  have ul := n9.lt
  have v0 := n11.cell 0 _ rfl
  have v1 := n11.cell 1 _ rfl
  have vl := n11.lt
  have xl := k14.lt
  clear k14 n9 n10 n11 n12 B7
  obtain ⟨Wb, hWb⟩ : ∃ W, ((((w7.alloc (.cells #[.int .u8 3, .int .i64 1, .int .u8 3, .int .i64 2, .int .u8 (K : Int), .int .i64 n] 24)).alloc (.cells #[.int .u8 5, .int .i64 0, .int .u8 5, .int .i64 0] 24)).alloc (.cells #[.int .u8 (J : Int), .int .i64 k] 24)).alloc (.cells #[.slice (some ⟨w7.heap.size, 0, none⟩) 3 3, .slice (some ⟨w7.heap.size + 1, 0, none⟩) 2 2, .slice (some ⟨w7.heap.size + 1 + 1, 0, none⟩) 1 1] 33)) = W := ⟨_, rfl⟩
  have qb0 : BlkL Wb (w7.heap.size) [.int .u8 3, .int .i64 1, .int .u8 3, .int .i64 2, .int .u8 (K : Int), .int .i64 n] := by
    rw [← hWb]
    have := BlkL.new w7 [.int .u8 3, .int .i64 1, .int .u8 3, .int .i64 2, .int .u8 (K : Int), .int .i64 n] 24
    rw [show w7.heap.size = w7.heap.size by simp] at this
    exact (((this).alloc _).alloc _).alloc _
  have qb1 : BlkL Wb (w7.heap.size + 1) [.int .u8 5, .int .i64 0, .int .u8 5, .int .i64 0] := by
    rw [← hWb]
    have := BlkL.new (w7.alloc (.cells #[.int .u8 3, .int .i64 1, .int .u8 3, .int .i64 2, .int .u8 (K : Int), .int .i64 n] 24)) [.int .u8 5, .int .i64 0, .int .u8 5, .int .i64 0] 24
    rw [show (w7.alloc (.cells #[.int .u8 3, .int .i64 1, .int .u8 3, .int .i64 2, .int .u8 (K : Int), .int .i64 n] 24)).heap.size = w7.heap.size + 1 by simp] at this
    exact ((this).alloc _).alloc _
  have qb2 : BlkL Wb (w7.heap.size + 1 + 1) [.int .u8 (J : Int), .int .i64 k] := by
    rw [← hWb]
    have := BlkL.new ((w7.alloc (.cells #[.int .u8 3, .int .i64 1, .int .u8 3, .int .i64 2, .int .u8 (K : Int), .int .i64 n] 24)).alloc (.cells #[.int .u8 5, .int .i64 0, .int .u8 5, .int .i64 0] 24)) [.int .u8 (J : Int), .int .i64 k] 24
    rw [show ((w7.alloc (.cells #[.int .u8 3, .int .i64 1, .int .u8 3, .int .i64 2, .int .u8 (K : Int), .int .i64 n] 24)).alloc (.cells #[.int .u8 5, .int .i64 0, .int .u8 5, .int .i64 0] 24)).heap.size = w7.heap.size + 1 + 1 by simp] at this
    exact (this).alloc _
  have qbo : BlkL Wb (w7.heap.size + 1 + 1 + 1) [.slice (some ⟨w7.heap.size, 0, none⟩) 3 3, .slice (some ⟨w7.heap.size + 1, 0, none⟩) 2 2, .slice (some ⟨w7.heap.size + 1 + 1, 0, none⟩) 1 1] := by
    rw [← hWb]
    have := BlkL.new (((w7.alloc (.cells #[.int .u8 3, .int .i64 1, .int .u8 3, .int .i64 2, .int .u8 (K : Int), .int .i64 n] 24)).alloc (.cells #[.int .u8 5, .int .i64 0, .int .u8 5, .int .i64 0] 24)).alloc (.cells #[.int .u8 (J : Int), .int .i64 k] 24)) [.slice (some ⟨w7.heap.size, 0, none⟩) 3 3, .slice (some ⟨w7.heap.size + 1, 0, none⟩) 2 2, .slice (some ⟨w7.heap.size + 1 + 1, 0, none⟩) 1 1] 33
    rw [show (((w7.alloc (.cells #[.int .u8 3, .int .i64 1, .int .u8 3, .int .i64 2, .int .u8 (K : Int), .int .i64 n] 24)).alloc (.cells #[.int .u8 5, .int .i64 0, .int .u8 5, .int .i64 0] 24)).alloc (.cells #[.int .u8 (J : Int), .int .i64 k] 24)).heap.size = w7.heap.size + 1 + 1 + 1 by simp] at this
    exact this
  have bWb : Below w7.heap.size w7 Wb := by
    rw [← hWb]
    exact (((((Below.refl w7.heap.size w7).alloc (by simp <;> omega) _).alloc (by simp <;> omega) _).alloc (by simp <;> omega) _).alloc (by simp <;> omega) _)
  have HRb : Hid (Calls Tryd.prog 13 #[.slice (some ⟨w7.heap.size + 1 + 1 + 1, 0, none⟩) 3 3] Wb (RunM Wb 2 0 0 [(5, J, j), (5, 0, 0)])) := Lib.hid (run_litM H0.out (HB.out.trans ((HB7.out.trans (bWb.mono HB7.out.size)).mono HB.out.size)) (w7.heap.size + 1 + 1 + 1) [(w7.heap.size, [(3, 1), (3, 2), (K, n)]), (w7.heap.size + 1, [(5, 0), (5, 0)]), (w7.heap.size + 1 + 1, [(J, k)])] qbo (by
      intro q hq
      simp only [List.mem_cons, List.not_mem_nil, or_false] at hq
      rcases hq with rfl | rfl | rfl
      · exact qb0
      · exact qb1
      · exact qb2
      ) (by simp) (by simp) (by simp [AllOk, ActOk]; omega) 2 0 0 [(5, J, j), (5, 0, 0)] (by obtain ⟨k1, k2, k3, k4, k5⟩ := HK.out; obtain ⟨j1, j2, j3, j4, j5⟩ := HJ.out; have he := HEK.out; have hf := HEJ.out; simp [runP, runV, actsV, leaveV, CaS.burn, CaS.mark, noneV, k1, k2, k3, k4, k5, j1, j2, j3, j4, j5, he, hf]) rfl (by obtain ⟨k1, k2, k3, k4, k5⟩ := HK.out; obtain ⟨j1, j2, j3, j4, j5⟩ := HJ.out; have he := HEK.out; have hf := HEJ.out; simp [runP, runV, actsV, leaveV, CaS.burn, CaS.mark, noneV, k1, k2, k3, k4, k5, j1, j2, j3, j4, j5, he, hf]) (by obtain ⟨k1, k2, k3, k4, k5⟩ := HK.out; obtain ⟨j1, j2, j3, j4, j5⟩ := HJ.out; have he := HEK.out; have hf := HEJ.out; simp [runP, runV, actsV, leaveV, CaS.burn, CaS.mark, noneV, k1, k2, k3, k4, k5, j1, j2, j3, j4, j5, he, hf]))
  have HWb := Lib.hid bWb
  clear qb0 qb1 qb2 qbo bWb
  go_wp2_with fail
  with_reducible refine HRb.out.mono ?_
  intro e w8 hE
  obtain ⟨Ab, cb, rfl, ho, hbb⟩ := hE
  have hw : Below w7.heap.size w7 w8 := HWb.out.trans (hbb.mono HWb.out.size)
  have B8 : Below w.heap.size w w8 := HB7.out.trans (hw.mono HB7.out.size)
  obtain ⟨mbb, mob, rfl, hmbb, hmbl, hmc, _⟩ := ho.cell (by omega)
  have hwbb := HWb.out.size
  clear u0 u1 ul v0 v1 vl
  have k9 := K97.out.below hw
  have k10 := K107.out.below hw
  have k11 := K117.out.below hw
  have k12 := K127.out.below hw
  have k14 := K147.out.below hw
  have zf0 := k14.froz 0 (by simp)
  have zf1 := k14.froz 1 (by simp)
  have z0 := k14.cell 0 _ rfl
  have z1 := k14.cell 1 _ rfl
  have zl := k14.lt
  have nm1 : ¬ p14 = mbb := by omega
  have nm2 : ¬ mbb = p14 := by omega
  have n14 := (k14.set 0 (.int .u8 0) (by simp)).set 1 (.int .i64 0) (by simp)
  have n9 := (k9.other p14 0 (.int .u8 0) (by omega)).other p14 1 (.int .i64 0) (by omega)
  have n10 := (k10.other p14 0 (.int .u8 0) (by omega)).other p14 1 (.int .i64 0) (by omega)
  have n11 := (k11.other p14 0 (.int .u8 0) (by omega)).other p14 1 (.int .i64 0) (by omega)
  have n12 := (k12.other p14 0 (.int .u8 0) (by omega)).other p14 1 (.int .i64 0) (by omega)
  have mk : ∀ (i : Nat) (u : Value), w8.cell? ⟨mbb, mob + i, none⟩ = some u → ((w8.setCell ⟨p14, 0, none⟩ (.int .u8 0)).setCell ⟨p14, 1, none⟩ (.int .i64 0)).cell? ⟨mbb, mob + i, none⟩ = some u := by
    intro i u hu
    rw [World.cell?_setCell_other _ _ _ _ (by simp <;> omega), World.cell?_setCell_other _ _ _ _ (by simp <;> omega)]
    exact hu
  have c0 := mk 0 (.int .u8 5) (hmc 0 _ rfl)
  have c1 := mk 1 (.int .u8 (J : Int)) (hmc 1 _ rfl)
  have c2 := mk 2 (.int .i64 j) (hmc 2 _ rfl)
  have c3 := mk 3 (.int .u8 5) (hmc 3 _ rfl)
  have c4 := mk 4 (.int .u8 0) (hmc 4 _ rfl)
  have c5 := mk 5 (.int .i64 0) (hmc 5 _ rfl)
  have HB9 := Lib.hid (below_put2 B8 H14.out (.int .u8 0) (.int .i64 0))
  clear hmc ho hbb hw B8 mk k9 k10 k11 k12 k14 hmbl
  go_upto_region 9 with (fail)
  revert n9 n10 n11 n12 n14 c0 c1 c2 c3 c4 c5 HB9
  generalize (w8.setCell ⟨p14, 0, none⟩ (.int .u8 0)).setCell ⟨p14, 1, none⟩ (.int .i64 0) = w9
  intro n14 n9 n10 n11 n12 c0 c1 c2 c3 c4 c5 HB9
  clear z0 z1 zf0 zf1 zl
  have K99 := Lib.hid n9
  have K109 := Lib.hid n10
  have K119 := Lib.hid n11
  have K129 := Lib.hid n12
  have K149 := Lib.hid n14
  have z0 := n14.cell 0 _ rfl
  have z1 := n14.cell 1 _ rfl
  have y0 := n12.cell 0 _ rfl
  have y1 := n12.cell 1 _ rfl
  have c0' : w9.cell? ⟨mbb, mob, none⟩ = some (.int .u8 5) := c0
  clear c0
  clear n9 n10 n11 n12 n14
  go_region
  clear z0 z1 y0 y1 c0' c1 c2 c3 c4 c5 nm1 nm2
  have bd := (Below.refl w9.heap.size w9).drew
  have n9 := K99.out.below bd
  have n10 := K109.out.below bd
  have n11 := K119.out.below bd
  have n12 := K129.out.below bd
  have n14 := K149.out.below bd
  have B9 := HB9.out.drew
  clear bd
  revert n9 n10 n11 n12 n14 B9
  generalize w9.drew = w9d
  intro n9 n10 n11 n12 n14 B9
  have HB9d := Lib.hid B9
  have K99d := Lib.hid n9
  have K109d := Lib.hid n10
  have K119d := Lib.hid n11
  have K129d := Lib.hid n12
  have K149d := Lib.hid n14
  have u0 := n9.cell 0 _ rfl
  have u1 := n9.cell 1 _ rfl
  have ul := n9.lt
  have v0 := n11.cell 0 _ rfl
  have v1 := n11.cell 1 _ rfl
  have vl := n11.lt
  have xl := n14.lt
  clear n9 n10 n11 n12 n14 B9
  obtain ⟨Wc, hWc⟩ : ∃ W, ((((w9d.alloc (.cells #[.int .u8 3, .int .i64 1, .int .u8 (K : Int), .int .i64 n] 24)).alloc (.cells #[.int .u8 3, .int .i64 2, .int .u8 (J : Int), .int .i64 k] 24)).alloc (.cells #[.int .u8 5, .int .i64 0] 24)).alloc (.cells #[.slice (some ⟨w9d.heap.size, 0, none⟩) 2 2, .slice (some ⟨w9d.heap.size + 1, 0, none⟩) 2 2, .slice (some ⟨w9d.heap.size + 1 + 1, 0, none⟩) 1 1] 33)) = W := ⟨_, rfl⟩
  have qc0 : BlkL Wc (w9d.heap.size) [.int .u8 3, .int .i64 1, .int .u8 (K : Int), .int .i64 n] := by
    rw [← hWc]
    have := BlkL.new w9d [.int .u8 3, .int .i64 1, .int .u8 (K : Int), .int .i64 n] 24
    rw [show w9d.heap.size = w9d.heap.size by simp] at this
    exact (((this).alloc _).alloc _).alloc _
  have qc1 : BlkL Wc (w9d.heap.size + 1) [.int .u8 3, .int .i64 2, .int .u8 (J : Int), .int .i64 k] := by
    rw [← hWc]
    have := BlkL.new (w9d.alloc (.cells #[.int .u8 3, .int .i64 1, .int .u8 (K : Int), .int .i64 n] 24)) [.int .u8 3, .int .i64 2, .int .u8 (J : Int), .int .i64 k] 24
    rw [show (w9d.alloc (.cells #[.int .u8 3, .int .i64 1, .int .u8 (K : Int), .int .i64 n] 24)).heap.size = w9d.heap.size + 1 by simp] at this
    exact ((this).alloc _).alloc _
  have qc2 : BlkL Wc (w9d.heap.size + 1 + 1) [.int .u8 5, .int .i64 0] := by
    rw [← hWc]
    have := BlkL.new ((w9d.alloc (.cells #[.int .u8 3, .int .i64 1, .int .u8 (K : Int), .int .i64 n] 24)).alloc (.cells #[.int .u8 3, .int .i64 2, .int .u8 (J : Int), .int .i64 k] 24)) [.int .u8 5, .int .i64 0] 24
    rw [show ((w9d.alloc (.cells #[.int .u8 3, .int .i64 1, .int .u8 (K : Int), .int .i64 n] 24)).alloc (.cells #[.int .u8 3, .int .i64 2, .int .u8 (J : Int), .int .i64 k] 24)).heap.size = w9d.heap.size + 1 + 1 by simp] at this
    exact (this).alloc _
  have qco : BlkL Wc (w9d.heap.size + 1 + 1 + 1) [.slice (some ⟨w9d.heap.size, 0, none⟩) 2 2, .slice (some ⟨w9d.heap.size + 1, 0, none⟩) 2 2, .slice (some ⟨w9d.heap.size + 1 + 1, 0, none⟩) 1 1] := by
    rw [← hWc]
    have := BlkL.new (((w9d.alloc (.cells #[.int .u8 3, .int .i64 1, .int .u8 (K : Int), .int .i64 n] 24)).alloc (.cells #[.int .u8 3, .int .i64 2, .int .u8 (J : Int), .int .i64 k] 24)).alloc (.cells #[.int .u8 5, .int .i64 0] 24)) [.slice (some ⟨w9d.heap.size, 0, none⟩) 2 2, .slice (some ⟨w9d.heap.size + 1, 0, none⟩) 2 2, .slice (some ⟨w9d.heap.size + 1 + 1, 0, none⟩) 1 1] 33
    rw [show (((w9d.alloc (.cells #[.int .u8 3, .int .i64 1, .int .u8 (K : Int), .int .i64 n] 24)).alloc (.cells #[.int .u8 3, .int .i64 2, .int .u8 (J : Int), .int .i64 k] 24)).alloc (.cells #[.int .u8 5, .int .i64 0] 24)).heap.size = w9d.heap.size + 1 + 1 + 1 by simp] at this
    exact this
  have bWc : Below w9d.heap.size w9d Wc := by
    rw [← hWc]
    exact (((((Below.refl w9d.heap.size w9d).alloc (by simp <;> omega) _).alloc (by simp <;> omega) _).alloc (by simp <;> omega) _).alloc (by simp <;> omega) _)
  have HRc : Hid (Calls Tryd.prog 13 #[.slice (some ⟨w9d.heap.size + 1 + 1 + 1, 0, none⟩) 3 3] Wc (RunM Wc 1 (K : Int) m [(5, J, j)])) := Lib.hid (run_litM H0.out (HB.out.trans ((HB9d.out.trans (bWc.mono HB9d.out.size)).mono HB.out.size)) (w9d.heap.size + 1 + 1 + 1) [(w9d.heap.size, [(3, 1), (K, n)]), (w9d.heap.size + 1, [(3, 2), (J, k)]), (w9d.heap.size + 1 + 1, [(5, 0)])] qco (by
      intro q hq
      simp only [List.mem_cons, List.not_mem_nil, or_false] at hq
      rcases hq with rfl | rfl | rfl
      · exact qc0
      · exact qc1
      · exact qc2
      ) (by simp) (by simp) (by simp [AllOk, ActOk]; omega) 1 (K : Int) m [(5, J, j)] (by obtain ⟨k1, k2, k3, k4, k5⟩ := HK.out; obtain ⟨j1, j2, j3, j4, j5⟩ := HJ.out; have he := HEK.out; have hf := HEJ.out; simp [runP, runV, actsV, leaveV, CaS.burn, CaS.mark, noneV, k1, k2, k3, k4, k5, j1, j2, j3, j4, j5, he, hf]) rfl (by obtain ⟨k1, k2, k3, k4, k5⟩ := HK.out; obtain ⟨j1, j2, j3, j4, j5⟩ := HJ.out; have he := HEK.out; have hf := HEJ.out; simp [runP, runV, actsV, leaveV, CaS.burn, CaS.mark, noneV, k1, k2, k3, k4, k5, j1, j2, j3, j4, j5, he, hf]) (by obtain ⟨k1, k2, k3, k4, k5⟩ := HK.out; obtain ⟨j1, j2, j3, j4, j5⟩ := HJ.out; have he := HEK.out; have hf := HEJ.out; simp [runP, runV, actsV, leaveV, CaS.burn, CaS.mark, noneV, k1, k2, k3, k4, k5, j1, j2, j3, j4, j5, he, hf]))
  have HWc := Lib.hid bWc
  clear qc0 qc1 qc2 qco bWc
  go_wp2_with fail
  with_reducible refine HRc.out.mono ?_
  intro e w10 hE
  obtain ⟨Ac, cc, rfl, ho, hbc⟩ := hE
  have hw : Below w9d.heap.size w9d w10 := HWc.out.trans (hbc.mono HWc.out.size)
  have B8 : Below w.heap.size w w10 := HB9d.out.trans (hw.mono HB9d.out.size)
  obtain ⟨mbc, moc, rfl, hmbc, hmbl, hmc, _⟩ := ho.cell (by omega)
  have hwbc := HWc.out.size
  clear u0 u1 ul v0 v1 vl
  have k9 := K99d.out.below hw
  have k10 := K109d.out.below hw
  have k11 := K119d.out.below hw
  have k12 := K129d.out.below hw
  have k14 := K149d.out.below hw
  have zf0 := k14.froz 0 (by simp)
  have zf1 := k14.froz 1 (by simp)
  have z0 := k14.cell 0 _ rfl
  have z1 := k14.cell 1 _ rfl
  have zl := k14.lt
  have nm1 : ¬ p14 = mbc := by omega
  have nm2 : ¬ mbc = p14 := by omega
  have n14 := (k14.set 0 (.int .u8 (K : Int)) (by simp)).set 1 (.int .i64 m) (by simp)
  have n9 := (k9.other p14 0 (.int .u8 (K : Int)) (by omega)).other p14 1 (.int .i64 m) (by omega)
  have n10 := (k10.other p14 0 (.int .u8 (K : Int)) (by omega)).other p14 1 (.int .i64 m) (by omega)
  have n11 := (k11.other p14 0 (.int .u8 (K : Int)) (by omega)).other p14 1 (.int .i64 m) (by omega)
  have n12 := (k12.other p14 0 (.int .u8 (K : Int)) (by omega)).other p14 1 (.int .i64 m) (by omega)
  have mk : ∀ (i : Nat) (u : Value), w10.cell? ⟨mbc, moc + i, none⟩ = some u → ((w10.setCell ⟨p14, 0, none⟩ (.int .u8 (K : Int))).setCell ⟨p14, 1, none⟩ (.int .i64 m)).cell? ⟨mbc, moc + i, none⟩ = some u := by
    intro i u hu
    rw [World.cell?_setCell_other _ _ _ _ (by simp <;> omega), World.cell?_setCell_other _ _ _ _ (by simp <;> omega)]
    exact hu
  have c0 := mk 0 (.int .u8 5) (hmc 0 _ rfl)
  have c1 := mk 1 (.int .u8 (J : Int)) (hmc 1 _ rfl)
  have c2 := mk 2 (.int .i64 j) (hmc 2 _ rfl)
  have HB11 := Lib.hid (below_put2 B8 H14.out (.int .u8 (K : Int)) (.int .i64 m))
  clear hmc ho hbc hw B8 mk k9 k10 k11 k12 k14 hmbl
  go_upto_region 12 with (fail)
  revert n9 n10 n11 n12 n14 c0 c1 c2 HB11
  generalize (w10.setCell ⟨p14, 0, none⟩ (.int .u8 (K : Int))).setCell ⟨p14, 1, none⟩ (.int .i64 m) = w11
  intro n14 n9 n10 n11 n12 c0 c1 c2 HB11
  clear z0 z1 zf0 zf1 zl
  have z0 := n14.cell 0 _ rfl
  have z1 := n14.cell 1 _ rfl
  have t0 := n10.cell 0 _ rfl
  have t1 := n10.cell 1 _ rfl
  have y0 := n12.cell 0 _ rfl
  have y1 := n12.cell 1 _ rfl
  have c0' : w11.cell? ⟨mbc, moc, none⟩ = some (.int .u8 5) := c0
  clear c0 n9 n10 n11 n12 n14
  go_region
  go_wp2
  go_ret
  exact ⟨rfl, HB11.out.drew⟩
end Go.Proofs.YtoanpcnkaoigpaaDoor
