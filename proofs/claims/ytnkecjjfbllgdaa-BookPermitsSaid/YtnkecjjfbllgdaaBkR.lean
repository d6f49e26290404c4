/- Do of a call on an identity. -/
import Derived.Test.YtnkecjjfbllgdaaBkQ
import Derived.Test.YtnkecjjfbllgdaaBkL
namespace Go.Proofs.Ytnkecjjfbllgdaa
open Go.RowKit Go.Maps
set_option maxRecDepth 100000
set_option linter.unusedVariables false

section
variable (w : World) (b op kn kc : Nat) (KA : Option Addr) (q N now s r0 r2 r3 r4 r5 : Int) (r1 : Bool)
    (q5 : ((op : Int) == 5) = false) (q6 : ((op : Int) == 6) = false)
    (HC : Hid (∀ W, Below w.heap.size w W → Calls Try.prog 33 #[.pointer (some ⟨b, 0, none⟩), .agg #[.int .u8 (op : Nat), .int .i64 q, .slice KA kn kc, .int .i64 N], .int .i64 now, .int .i64 s] W fun e w' => e = .returned (.int .i64 0) ∧ Below W.heap.size W w'))
set_option maxHeartbeats 1600000 in
include q5 q6 HC in
theorem bDo_no
    (HD : Hid (∀ W, Below w.heap.size w W → Calls Try.prog 35 #[.pointer (some ⟨b, 0, none⟩), .agg #[.int .u8 (op : Nat), .int .i64 q, .slice KA kn kc, .int .i64 N], .int .i64 now, .int .i64 s] W fun e w' => e = .returned (.agg #[.int .i64 r0, .bool r1, .int .i64 r2, .int .i64 r3, .int .i64 r4, .int .i64 r5]) ∧ Below W.heap.size W w')) :
    Calls Try.prog 18 #[.pointer (some ⟨b, 0, none⟩), .agg #[.int .u8 (op : Nat), .int .i64 q, .slice KA kn kc, .int .i64 N], .int .i64 now, .int .i64 s] w fun e w' => e = .returned (.agg #[.int .i64 r0, .bool r1, .int .i64 r2, .int .i64 r3, .int .i64 r4, .int .i64 r5]) ∧ Below w.heap.size w w' := by
  go_enter Try.func18, Try.ntmps18
  go_wp2_with fail
  with_reducible refine (HC.out _ (below_a2 _ _ _)).mono ?_
  rintro e w1 ⟨rfl, hb⟩
  have b0 := ((BlkL.new w [.int .u8 (op : Nat), .int .i64 q, .slice KA kn kc, .int .i64 N] 25).alloc _).below hb
  have b1 := (BlkL.new _ [.int .i64 0, .bool false, .int .i64 0, .int .i64 0, .int .i64 0, .int .i64 0] 42).below hb
  simp only [World.size_alloc] at b1
  have HB1 := Lib.hid ((below_a2 w _ _).trans (hb.mono (by simp; omega)))
  clear hb
  have a0 := b0.cell 0 _ rfl
  have a1 := b0.cell 1 _ rfl
  have a2 := b0.cell 2 _ rfl
  have a3 := b0.cell 3 _ rfl
  have K1 := Lib.hid b1
  clear b0 b1
  go_wp2_with fail
  with_reducible refine (HD.out _ HB1.out).mono ?_
  rintro e w2 ⟨rfl, hb⟩
  have k1 := K1.out.below hb
  have HB2 := Lib.hid (HB1.out.trans (hb.mono HB1.out.size))
  clear hb a0 a1 a2 a3
  have d0 := k1.cell 0 _ rfl
  have d1 := k1.cell 1 _ rfl
  have d2 := k1.cell 2 _ rfl
  have d3 := k1.cell 3 _ rfl
  have d4 := k1.cell 4 _ rfl
  have d5 := k1.cell 5 _ rfl
  have f0 := k1.froz 0 (by simp)
  have f1 := k1.froz 1 (by simp)
  have f2 := k1.froz 2 (by simp)
  have f3 := k1.froz 3 (by simp)
  have f4 := k1.froz 4 (by simp)
  have f5 := k1.froz 5 (by simp)
  have K9 := Lib.hid k1
  clear k1
  go_wp2_with fail
  have bz := K9.out.put6 (.int .i64 r0) (.bool r1) (.int .i64 r2) (.int .i64 r3) (.int .i64 r4) (.int .i64 r5)
  have hb := below_put6 HB2.out (b := w.heap.size + 1) (by omega) (.int .i64 r0) (.bool r1) (.int .i64 r2) (.int .i64 r3) (.int .i64 r4) (.int .i64 r5)
  have e0 := bz.cell 0 _ rfl
  have e1 := bz.cell 1 _ rfl
  have e2 := bz.cell 2 _ rfl
  have e3 := bz.cell 3 _ rfl
  have e4 := bz.cell 4 _ rfl
  have e5 := bz.cell 5 _ rfl
  clear bz K9 K1 HB2 d0 d1 d2 d3 d4 d5 f0 f1 f2 f3 f4 f5
  generalize World.setCell _ _ _ = WZ at e0 e1 e2 e3 e4 e5 hb ⊢
  exact bodyPost_ret (v := .agg #[.int .i64 r0, .bool r1, .int .i64 r2, .int .i64 r3, .int .i64 r4, .int .i64 r5]) (by simp [results, Try.results18, go_sem, e0, e1, e2, e3, e4, e5]) rfl ⟨rfl, hb⟩

set_option maxHeartbeats 1600000 in
include q5 q6 HC in
theorem bDo_put (mb : Nat) (t' : Int) (xs : List Int) (hmb : mb < w.heap.size) (PU : Value → World → Prop) (hPU : ∀ v W p u, p.block ≠ mb → PU v W → PU v (W.setCell p u))
    (HD : Hid (∀ W, Below w.heap.size w W → Calls Try.prog 35 #[.pointer (some ⟨b, 0, none⟩), .agg #[.int .u8 (op : Nat), .int .i64 q, .slice KA kn kc, .int .i64 N], .int .i64 now, .int .i64 s] W fun e w' => e = .returned (.agg #[.int .i64 r0, .bool r1, .int .i64 r2, .int .i64 r3, .int .i64 r4, .int .i64 r5]) ∧ ∃ A' m' k', OwnI w' W.heap.size A' m' k' xs ∧ PU (.agg #[.int .i64 t', .slice A' m' k']) w' ∧ Off [mb] W w')) :
    Calls Try.prog 18 #[.pointer (some ⟨b, 0, none⟩), .agg #[.int .u8 (op : Nat), .int .i64 q, .slice KA kn kc, .int .i64 N], .int .i64 now, .int .i64 s] w fun e w' => e = .returned (.agg #[.int .i64 r0, .bool r1, .int .i64 r2, .int .i64 r3, .int .i64 r4, .int .i64 r5]) ∧ ∃ A' m' k', OwnI w' w.heap.size A' m' k' xs ∧ PU (.agg #[.int .i64 t', .slice A' m' k']) w' ∧ Off [mb] w w' := by
  have hKm : w.heap.size + 1 ≠ mb := by omega
  go_enter Try.func18, Try.ntmps18
  go_wp2_with fail
  with_reducible refine (HC.out _ (below_a2 _ _ _)).mono ?_
  rintro e w1 ⟨rfl, hb⟩
  have b0 := ((BlkL.new w [.int .u8 (op : Nat), .int .i64 q, .slice KA kn kc, .int .i64 N] 25).alloc _).below hb
  have b1 := (BlkL.new _ [.int .i64 0, .bool false, .int .i64 0, .int .i64 0, .int .i64 0, .int .i64 0] 42).below hb
  simp only [World.size_alloc] at b1
  have HB1 := Lib.hid ((below_a2 w _ _).trans (hb.mono (by simp; omega)))
  clear hb
  have a0 := b0.cell 0 _ rfl
  have a1 := b0.cell 1 _ rfl
  have a2 := b0.cell 2 _ rfl
  have a3 := b0.cell 3 _ rfl
  have HL1 := Lib.hid b1.lt
  have K1 := Lib.hid b1
  clear b0 b1
  go_wp2_with fail
  with_reducible refine (HD.out _ HB1.out).mono ?_
  rintro e w2 ⟨rfl, A', m', k', how, hpu, hof⟩
  have k1 := K1.out.off hof (by simpa using hKm)
  have HOF := Lib.hid ((Off.of_below (S := [mb]) HB1.out).trans hof)
  have HOW := Lib.hid how
  have HPU := Lib.hid hpu
  clear how hpu hof a0 a1 a2 a3
  have d0 := k1.cell 0 _ rfl
  have d1 := k1.cell 1 _ rfl
  have d2 := k1.cell 2 _ rfl
  have d3 := k1.cell 3 _ rfl
  have d4 := k1.cell 4 _ rfl
  have d5 := k1.cell 5 _ rfl
  have f0 := k1.froz 0 (by simp)
  have f1 := k1.froz 1 (by simp)
  have f2 := k1.froz 2 (by simp)
  have f3 := k1.froz 3 (by simp)
  have f4 := k1.froz 4 (by simp)
  have f5 := k1.froz 5 (by simp)
  have K9 := Lib.hid k1
  clear k1
  go_wp2_with fail
  have bz := K9.out.put6 (.int .i64 r0) (.bool r1) (.int .i64 r2) (.int .i64 r3) (.int .i64 r4) (.int .i64 r5)
  have hoz := (((((HOF.out.setNew (p := ⟨w.heap.size + 1, 0, none⟩) (by simp) (.int .i64 r0)).setNew (p := ⟨w.heap.size + 1, 1, none⟩) (by simp) (.bool r1)).setNew (p := ⟨w.heap.size + 1, 2, none⟩) (by simp) (.int .i64 r2)).setNew (p := ⟨w.heap.size + 1, 3, none⟩) (by simp) (.int .i64 r3)).setNew (p := ⟨w.heap.size + 1, 4, none⟩) (by simp) (.int .i64 r4)).setNew (p := ⟨w.heap.size + 1, 5, none⟩) (by simp) (.int .i64 r5)
  have haz := (Above.refl w1.heap.size w2).put6 (b := w.heap.size + 1) HL1.out (.int .i64 r0) (.bool r1) (.int .i64 r2) (.int .i64 r3) (.int .i64 r4) (.int .i64 r5)
  have how := (HOW.out.above haz).mono (B' := w.heap.size) HB1.out.size
  have hpz := hPU _ _ ⟨w.heap.size + 1, 5, none⟩ (.int .i64 r5) hKm (hPU _ _ ⟨w.heap.size + 1, 4, none⟩ (.int .i64 r4) hKm (hPU _ _ ⟨w.heap.size + 1, 3, none⟩ (.int .i64 r3) hKm (hPU _ _ ⟨w.heap.size + 1, 2, none⟩ (.int .i64 r2) hKm (hPU _ _ ⟨w.heap.size + 1, 1, none⟩ (.bool r1) hKm (hPU _ _ ⟨w.heap.size + 1, 0, none⟩ (.int .i64 r0) hKm HPU.out)))))
  have e0 := bz.cell 0 _ rfl
  have e1 := bz.cell 1 _ rfl
  have e2 := bz.cell 2 _ rfl
  have e3 := bz.cell 3 _ rfl
  have e4 := bz.cell 4 _ rfl
  have e5 := bz.cell 5 _ rfl
  clear bz haz K9 K1 HOF HOW HPU d0 d1 d2 d3 d4 d5 f0 f1 f2 f3 f4 f5
  generalize World.setCell _ _ _ = WZ at e0 e1 e2 e3 e4 e5 hoz how hpz ⊢
  exact bodyPost_ret (v := .agg #[.int .i64 r0, .bool r1, .int .i64 r2, .int .i64 r3, .int .i64 r4, .int .i64 r5]) (by simp [results, Try.results18, go_sem, e0, e1, e2, e3, e4, e5]) rfl ⟨rfl, A', m', k', how, hpz, hoz⟩
end
end Go.Proofs.Ytnkecjjfbllgdaa
