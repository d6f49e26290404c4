/- The law MeterMerges: its walk. -/
import Derived.Test.YtffibfnagoagcaaMetI
import Derived.Test.YtffibfnagoagcaaMetK
import Derived.Test.YtffibfnagoagcaaMetDm
import Derived.Test.YtffibfnagoagcaaMetM
import Derived.Outline
namespace Go.Proofs.Ytffibfnagoagcaa
open Go.RowKit
set_option maxRecDepth 100000
set_option linter.unusedVariables false

theorem mergeD_any (w : World) (a b : MV) (oka : a.Ok) (okb : b.Ok) (hna : -9223372036854775808 ≤ a.n ∧ a.n ≤ 9223372036854775807) (hnb : -9223372036854775808 ≤ b.n ∧ b.n ≤ 9223372036854775807) (hba : -9223372036854775808 ≤ a.bad ∧ a.bad ≤ 9223372036854775807) (hbb : -9223372036854775808 ≤ b.bad ∧ b.bad ≤ 9223372036854775807) :
    Calls Try.prog 26 #[a.val, b.val] w fun e w' => ∃ m : MV, e = .returned (.tuple #[m.val, .int .i64 (mergeE a b)]) ∧ m.Ok ∧ m.can = mergeC2 a b ∧ Below w.heap.size w w' := by
  rcases h : cntsB a b with _ | _
  · refine (mergeD_bad w a b hna hnb hba hbb h).mono fun e w' ⟨h1, h2⟩ => ⟨zeroM, ?_, zeroM_ok, ?_, h2⟩
    · rw [h1]; unfold mergeE; rw [h]; rfl
    · unfold mergeC2; rw [h]; rfl
  · have key : ∀ fc : MV, figC a.can b.can = fc → (Calls Try.prog 26 #[a.val, b.val] w fun e w' => ∃ m : MV, e = .returned (.tuple #[m.val, .int .i64 0]) ∧ m.Ok ∧ m.can = { fc with n := a.n + b.n, bad := a.bad + b.bad } ∧ Below w.heap.size w w') →
        Calls Try.prog 26 #[a.val, b.val] w fun e w' => ∃ m : MV, e = .returned (.tuple #[m.val, .int .i64 (mergeE a b)]) ∧ m.Ok ∧ m.can = mergeC2 a b ∧ Below w.heap.size w w' := fun fc hfc hc => by
      refine hc.mono fun e w' ⟨m, h1, h2, h3, h4⟩ => ⟨m, ?_, h2, ?_, h4⟩
      · rw [h1]; unfold mergeE; rw [h]; rfl
      · unfold mergeC2; rw [h3, h, hfc]; rfl
    by_cases h0 : a.n = 0
    · exact key _ rfl (mergeD_one w a b oka okb h (.inl h0))
    · by_cases h1 : b.n = 0
      · exact key _ rfl (mergeD_one w a b oka okb h (.inr h1))
      · refine key (mrgC a.can b.can) ?_ (mergeD_both w a b oka okb h h0 h1 _ rfl)
        unfold figC
        exact (if_neg h0).trans (if_neg h1)
set_option maxHeartbeats 3200000 in
theorem meterMerges_g (fn fb : Int) (f0 f1 f2 f3 f4 f5 : Nat) (gn gb : Int) (g0 g1 g2 g3 g4 g5 : Nat) (w : World) (okf : (MV.mk fn fb f0 f1 f2 f3 f4 f5).Ok) (okg : (MV.mk gn gb g0 g1 g2 g3 g4 g5).Ok) (b1 : -9223372036854775808 ≤ fn ∧ fn ≤ 9223372036854775807) (b2 : -9223372036854775808 ≤ gn ∧ gn ≤ 9223372036854775807) (b3 : -9223372036854775808 ≤ fb ∧ fb ≤ 9223372036854775807) (b4 : -9223372036854775808 ≤ gb ∧ gb ≤ 9223372036854775807)
    (HAW : ∀ w, Calls Try.prog 11 #[] w (ValEnd w (.bool true))) :
    Calls Try.prog 5 #[.agg #[.int .i64 fn, .int .i64 fb, .int .u64 (f0 : Int), .int .u64 (f1 : Int), .int .u64 (f2 : Int), .int .u64 (f3 : Int), .int .u64 (f4 : Int), .int .u64 (f5 : Int)], .agg #[.int .i64 gn, .int .i64 gb, .int .u64 (g0 : Int), .int .u64 (g1 : Int), .int .u64 (g2 : Int), .int .u64 (g3 : Int), .int .u64 (g4 : Int), .int .u64 (g5 : Int)]] w (ValEnd w (.bool true)) := by
  have HM1 := Lib.hid (fun w => made_any w fn fb f0 f1 f2 f3 f4 f5)
  have HM2 := Lib.hid (fun w => made_any w gn gb g0 g1 g2 g3 g4 g5)
  have HP := Lib.hid (fun w => mergeP_any w ⟨fn, fb, f0, f1, f2, f3, f4, f5⟩ ⟨gn, gb, g0, g1, g2, g3, g4, g5⟩ okf okg b2.2 b4.2)
  have HD := Lib.hid (fun w => mergeD_any w ⟨fn, fb, f0, f1, f2, f3, f4, f5⟩ ⟨gn, gb, g0, g1, g2, g3, g4, g5⟩ okf okg b1 b2 b3 b4)
  simp only [MV.val] at HM1 HM2 HP HD
  generalize mergeE ⟨fn, fb, f0, f1, f2, f3, f4, f5⟩ ⟨gn, gb, g0, g1, g2, g3, g4, g5⟩ = er at *
  generalize mergeC2 ⟨fn, fb, f0, f1, f2, f3, f4, f5⟩ ⟨gn, gb, g0, g1, g2, g3, g4, g5⟩ = mc at *
  have kst : ∀ (a : Addr) (x : Nat) (w : World), (store a (.float .f64 x)).run Try.prog w = stored Try.prog w a (.float .f64 x) .plain := fun a x w => run_store _ _ _ _ _ rfl
  clear okf okg b1 b2 b3 b4
  go_enter Try.func5, Try.ntmps5
  go_wp2_with fail
  with_reducible refine (HM1.out _).mono ?_
  rintro e w1 ⟨rfl, hb1⟩
  have kg := ((BlkL.new (w.alloc (.cells #[.int .i64 fn, .int .i64 fb, .int .u64 (f0 : Int), .int .u64 (f1 : Int), .int .u64 (f2 : Int), .int .u64 (f3 : Int), .int .u64 (f4 : Int), .int .u64 (f5 : Int)] 24)) [.int .i64 gn, .int .i64 gb, .int .u64 (g0 : Int), .int .u64 (g1 : Int), .int .u64 (g2 : Int), .int .u64 (g3 : Int), .int .u64 (g4 : Int), .int .u64 (g5 : Int)] 24)).below hb1
  rw [World.size_alloc] at kg
  have HB1 := Lib.hid ((((Below.refl w.heap.size w).alloc (Nat.le_refl _) (.cells #[.int .i64 fn, .int .i64 fb, .int .u64 (f0 : Int), .int .u64 (f1 : Int), .int .u64 (f2 : Int), .int .u64 (f3 : Int), .int .u64 (f4 : Int), .int .u64 (f5 : Int)] 24)).alloc (by simp) (.cells #[.int .i64 gn, .int .i64 gb, .int .u64 (g0 : Int), .int .u64 (g1 : Int), .int .u64 (g2 : Int), .int .u64 (g3 : Int), .int .u64 (g4 : Int), .int .u64 (g5 : Int)] 24)).trans (hb1.mono (by simp; omega)))
  clear hb1
  have kg0 := kg.cell 0 _ rfl
  have kg1 := kg.cell 1 _ rfl
  have kg2 := kg.cell 2 _ rfl
  have kg3 := kg.cell 3 _ rfl
  have kg4 := kg.cell 4 _ rfl
  have kg5 := kg.cell 5 _ rfl
  have kg6 := kg.cell 6 _ rfl
  have kg7 := kg.cell 7 _ rfl
  have lg := kg.lt
  have lg2 : w.heap.size < w1.heap.size := by omega
  clear kg
  go_wp2_with fail
  with_reducible refine (HM2.out _).mono ?_
  rintro e w2 ⟨rfl, hb2⟩
  have ka := ((BlkL.new w1 [.int .i64 fn, .int .i64 fb, .float .f64 f0, .float .f64 f1, .float .f64 f2, .float .f64 f3, .float .f64 f4, .float .f64 f5] 29).alloc (.cells #[.int .i64 fn, .int .i64 fb, .float .f64 f0, .float .f64 f1, .float .f64 f2, .float .f64 f3, .float .f64 f4, .float .f64 f5] 31)).below hb2
  have kb := (BlkL.new (w1.alloc (.cells #[.int .i64 fn, .int .i64 fb, .float .f64 f0, .float .f64 f1, .float .f64 f2, .float .f64 f3, .float .f64 f4, .float .f64 f5] 29)) [.int .i64 fn, .int .i64 fb, .float .f64 f0, .float .f64 f1, .float .f64 f2, .float .f64 f3, .float .f64 f4, .float .f64 f5] 31).below hb2
  rw [World.size_alloc] at kb
  have HB2 := Lib.hid (((HB1.out.alloc HB1.out.size (.cells #[.int .i64 fn, .int .i64 fb, .float .f64 f0, .float .f64 f1, .float .f64 f2, .float .f64 f3, .float .f64 f4, .float .f64 f5] 29)).alloc (by have := HB1.out.size; simp; omega) (.cells #[.int .i64 fn, .int .i64 fb, .float .f64 f0, .float .f64 f1, .float .f64 f2, .float .f64 f3, .float .f64 f4, .float .f64 f5] 31)).trans (hb2.mono (by have := HB1.out.size; simp; omega)))
  have a0 := ka.cell 0 _ rfl
  have a1 := ka.cell 1 _ rfl
  have a2 := ka.cell 2 _ rfl
  have a3 := ka.cell 3 _ rfl
  have a4 := ka.cell 4 _ rfl
  have a5 := ka.cell 5 _ rfl
  have a6 := ka.cell 6 _ rfl
  have a7 := ka.cell 7 _ rfl
  have la := ka.lt
  have lb := kb.lt
  have la2 : w1.heap.size < w2.heap.size + 1 := by omega
  have KB := Lib.hid kb
  clear ka kb hb2 HB1 kg0 kg1 kg2 kg3 kg4 kg5 kg6 kg7
  go_wp2_with fail
  with_reducible refine (HP.out _).mono ?_
  rintro e w3 ⟨⟨pn, pb, p0, p1, p2, p3, p4, p5⟩, rfl, okp, cap, hb3⟩
  dsimp only
  have kb := ((KB.out.alloc (.cells #[.int .i64 gn, .int .i64 gb, .float .f64 g0, .float .f64 g1, .float .f64 g2, .float .f64 g3, .float .f64 g4, .float .f64 g5] 29)).alloc (.cells #[.int .i64 gn, .int .i64 gb, .float .f64 g0, .float .f64 g1, .float .f64 g2, .float .f64 g3, .float .f64 g4, .float .f64 g5] 31)).below hb3
  have kd := (BlkL.new (w2.alloc (.cells #[.int .i64 gn, .int .i64 gb, .float .f64 g0, .float .f64 g1, .float .f64 g2, .float .f64 g3, .float .f64 g4, .float .f64 g5] 29)) [.int .i64 gn, .int .i64 gb, .float .f64 g0, .float .f64 g1, .float .f64 g2, .float .f64 g3, .float .f64 g4, .float .f64 g5] 31).below hb3
  rw [World.size_alloc] at kd
  have HB3 := Lib.hid (((HB2.out.alloc HB2.out.size (.cells #[.int .i64 gn, .int .i64 gb, .float .f64 g0, .float .f64 g1, .float .f64 g2, .float .f64 g3, .float .f64 g4, .float .f64 g5] 29)).alloc (by have := HB2.out.size; simp; omega) (.cells #[.int .i64 gn, .int .i64 gb, .float .f64 g0, .float .f64 g1, .float .f64 g2, .float .f64 g3, .float .f64 g4, .float .f64 g5] 31)).trans (hb3.mono (by have := HB2.out.size; simp; omega)))
  have c0 := kb.cell 0 _ rfl
  have d0 := kd.cell 0 _ rfl
  have c1 := kb.cell 1 _ rfl
  have d1 := kd.cell 1 _ rfl
  have c2 := kb.cell 2 _ rfl
  have d2 := kd.cell 2 _ rfl
  have c3 := kb.cell 3 _ rfl
  have d3 := kd.cell 3 _ rfl
  have c4 := kb.cell 4 _ rfl
  have d4 := kd.cell 4 _ rfl
  have c5 := kb.cell 5 _ rfl
  have d5 := kd.cell 5 _ rfl
  have c6 := kb.cell 6 _ rfl
  have d6 := kd.cell 6 _ rfl
  have c7 := kb.cell 7 _ rfl
  have d7 := kd.cell 7 _ rfl
  have lb3 := kb.lt
  have ld3 := kd.lt
  clear kb kd hb3 HB2 KB a0 a1 a2 a3 a4 a5 a6 a7
  go_wp2_with fail
  with_reducible refine (HD.out _).mono ?_
  rintro e w4 ⟨⟨qn, qb, q0, q1, q2, q3, q4, q5⟩, rfl, okq, caq, hb4⟩
  dsimp only
  have kp := (BlkL.new w3 [.int .i64 pn, .int .i64 pb, .float .f64 p0, .float .f64 p1, .float .f64 p2, .float .f64 p3, .float .f64 p4, .float .f64 p5] 29).below hb4
  have HB4 := Lib.hid ((HB3.out.alloc HB3.out.size (.cells #[.int .i64 pn, .int .i64 pb, .float .f64 p0, .float .f64 p1, .float .f64 p2, .float .f64 p3, .float .f64 p4, .float .f64 p5] 29)).trans (hb4.mono (by have := HB3.out.size; simp; omega)))
  have HKP := Lib.hid kp
  have HKQ := Lib.hid (BlkL.new w4 [.int .i64 qn, .int .i64 qb, .float .f64 q0, .float .f64 q1, .float .f64 q2, .float .f64 q3, .float .f64 q4, .float .f64 q5] 31)
  have hs0 := fun w => same8l_any w _ _ okp okq (cap.trans caq.symm)
  simp only [MV.val] at hs0
  have HS := Lib.hid hs0
  clear hs0 okp okq cap caq hb4 HB3 kp c0 c1 c2 c3 c4 c5 c6 c7 d0 d1 d2 d3 d4 d5 d6 d7
  go_wp2_with fail
  refine (HAW _).mono ?_
  rintro e w5 ⟨rfl, hb5⟩
  have kp := (HKP.out.alloc (.cells #[.int .i64 qn, .int .i64 qb, .float .f64 q0, .float .f64 q1, .float .f64 q2, .float .f64 q3, .float .f64 q4, .float .f64 q5] 31)).below hb5
  have kq := HKQ.out.below hb5
  have HB5 := Lib.hid ((HB4.out.alloc HB4.out.size (.cells #[.int .i64 qn, .int .i64 qb, .float .f64 q0, .float .f64 q1, .float .f64 q2, .float .f64 q3, .float .f64 q4, .float .f64 q5] 31)).trans (hb5.mono (by have := HB4.out.size; simp; omega)))
  have e0 := kp.cell 0 _ rfl
  have h0 := kq.cell 0 _ rfl
  have e1 := kp.cell 1 _ rfl
  have h1 := kq.cell 1 _ rfl
  have e2 := kp.cell 2 _ rfl
  have h2 := kq.cell 2 _ rfl
  have e3 := kp.cell 3 _ rfl
  have h3 := kq.cell 3 _ rfl
  have e4 := kp.cell 4 _ rfl
  have h4 := kq.cell 4 _ rfl
  have e5 := kp.cell 5 _ rfl
  have h5 := kq.cell 5 _ rfl
  have e6 := kp.cell 6 _ rfl
  have h6 := kq.cell 6 _ rfl
  have e7 := kp.cell 7 _ rfl
  have h7 := kq.cell 7 _ rfl
  clear kp kq hb5 HB4 HKP HKQ
  go_wp2_with fail
  with_reducible refine (HS.out _).mono ?_
  rintro e w6 ⟨rfl, hb6⟩
  have HB6 := Lib.hid (HB5.out.trans (hb6.mono HB5.out.size))
  clear hb6
  go_wp2
  go_ret
  exact ⟨by simp, HB6.out⟩
end Go.Proofs.Ytffibfnagoagcaa
