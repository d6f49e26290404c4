/- cell.Do of a Peek. -/
import Derived.Test.YtnkecjjfbllgdaaBkD
namespace Go.Proofs.Ytnkecjjfbllgdaa
open Go.RowKit
set_option maxRecDepth 100000
set_option linter.unusedVariables false
theorem keep6 {w : World} {a b j : Nat} {v0 v1 v2 v3 v4 v5 x : Value} (hne : a ≠ b) (h : w.cell? ⟨a, j, none⟩ = some x) :
    ((((((w.setCell ⟨b, 0, none⟩ v0).setCell ⟨b, 1, none⟩ v1).setCell ⟨b, 2, none⟩ v2).setCell ⟨b, 3, none⟩ v3).setCell ⟨b, 4, none⟩ v4).setCell ⟨b, 5, none⟩ v5).cell? ⟨a, j, none⟩ = some x := by
  have q : ∀ (W : World) (i : Nat) (v : Value), W.cell? ⟨a, j, none⟩ = some x → (W.setCell ⟨b, i, none⟩ v).cell? ⟨a, j, none⟩ = some x := fun W i v hW => (World.cell?_setCell_other _ _ _ _ (by simp)).trans hW
  exact q _ _ _ (q _ _ _ (q _ _ _ (q _ _ _ (q _ _ _ (q _ _ _ h)))))
set_option maxHeartbeats 3200000 in
theorem cDo_peekS (w : World) (T Tau pm q s n now : Int) (tat : Nat) (A KA : Option Addr) (m k kn kc : Nat)
    (HF : Hid (∀ W, Below w.heap.size w W → Calls Try.prog 68 #[.agg #[.int .i64 (tat : Nat), .slice A m k], .agg #[.int .u8 2, .int .i64 T, .int .i64 Tau, .int .i64 pm]] W fun e w' => e = .returned (.int .i64 (pm - m)) ∧ Below W.heap.size W w')) :
    Calls Try.prog 54 #[.agg #[.int .u8 2, .int .i64 T, .int .i64 Tau, .int .i64 pm], .agg #[.int .i64 (tat : Nat), .slice A m k], .agg #[.int .u8 4, .int .i64 q, .slice KA kn kc, .int .i64 n], .int .i64 now, .int .i64 s] w
      (ValEnd w (.tuple #[.agg #[.int .i64 0, .bool false, .int .i64 (pm - m), .int .i64 0, .int .i64 0, .int .i64 0], .agg #[.int .i64 (tat : Nat), .slice A m k], .bool false])) := by
  go_enter Try.func54, Try.ntmps54
  go_wp2
  have b0 := ((((BlkL.new w [.int .u8 2, .int .i64 T, .int .i64 Tau, .int .i64 pm] 52).alloc (.cells #[.int .i64 (tat : Nat), .slice A m k] 83)).alloc (.cells #[.int .u8 4, .int .i64 q, .slice KA kn kc, .int .i64 n] 25)).alloc (.cells #[.int .i64 0, .bool false, .int .i64 0, .int .i64 0, .int .i64 0, .int .i64 0] 42)).alloc (.cells #[.int .i64 0, .slice none 0 0] 83)
  have b1 := (((BlkL.new (w.alloc (.cells #[.int .u8 2, .int .i64 T, .int .i64 Tau, .int .i64 pm] 52)) [.int .i64 (tat : Nat), .slice A m k] 83).alloc (.cells #[.int .u8 4, .int .i64 q, .slice KA kn kc, .int .i64 n] 25)).alloc (.cells #[.int .i64 0, .bool false, .int .i64 0, .int .i64 0, .int .i64 0, .int .i64 0] 42)).alloc (.cells #[.int .i64 0, .slice none 0 0] 83)
  have b2 := ((BlkL.new ((w.alloc (.cells #[.int .u8 2, .int .i64 T, .int .i64 Tau, .int .i64 pm] 52)).alloc (.cells #[.int .i64 (tat : Nat), .slice A m k] 83)) [.int .u8 4, .int .i64 q, .slice KA kn kc, .int .i64 n] 25).alloc (.cells #[.int .i64 0, .bool false, .int .i64 0, .int .i64 0, .int .i64 0, .int .i64 0] 42)).alloc (.cells #[.int .i64 0, .slice none 0 0] 83)
  have b3 := (BlkL.new (((w.alloc (.cells #[.int .u8 2, .int .i64 T, .int .i64 Tau, .int .i64 pm] 52)).alloc (.cells #[.int .i64 (tat : Nat), .slice A m k] 83)).alloc (.cells #[.int .u8 4, .int .i64 q, .slice KA kn kc, .int .i64 n] 25)) [.int .i64 0, .bool false, .int .i64 0, .int .i64 0, .int .i64 0, .int .i64 0] 42).alloc (.cells #[.int .i64 0, .slice none 0 0] 83)
  have b4 := BlkL.new ((((w.alloc (.cells #[.int .u8 2, .int .i64 T, .int .i64 Tau, .int .i64 pm] 52)).alloc (.cells #[.int .i64 (tat : Nat), .slice A m k] 83)).alloc (.cells #[.int .u8 4, .int .i64 q, .slice KA kn kc, .int .i64 n] 25)).alloc (.cells #[.int .i64 0, .bool false, .int .i64 0, .int .i64 0, .int .i64 0, .int .i64 0] 42)) [.int .i64 0, .slice none 0 0] 83
  have hb0 := below_a5 w (.cells #[.int .u8 2, .int .i64 T, .int .i64 Tau, .int .i64 pm] 52) (.cells #[.int .i64 (tat : Nat), .slice A m k] 83) (.cells #[.int .u8 4, .int .i64 q, .slice KA kn kc, .int .i64 n] 25) (.cells #[.int .i64 0, .bool false, .int .i64 0, .int .i64 0, .int .i64 0, .int .i64 0] 42) (.cells #[.int .i64 0, .slice none 0 0] 83)
  simp only [World.size_alloc, List.toArray] at b0 b1 b2 b3 b4 hb0
  generalize World.alloc _ _ = WA at b0 b1 b2 b3 b4 hb0 ⊢
  have a00 := b0.cell 0 _ rfl
  have a01 := b0.cell 1 _ rfl
  have a02 := b0.cell 2 _ rfl
  have a03 := b0.cell 3 _ rfl
  have a10 := b1.cell 0 _ rfl
  have a11 := b1.cell 1 _ rfl
  have a23 := b2.cell 3 _ rfl
  have cb0 := b3.cell 0 _ rfl
  have cb1 := b3.cell 1 _ rfl
  have cb2 := b3.cell 2 _ rfl
  have cb3 := b3.cell 3 _ rfl
  have cb4 := b3.cell 4 _ rfl
  have cb5 := b3.cell 5 _ rfl
  have fb0 := b3.froz 0 (by simp)
  have fb1 := b3.froz 1 (by simp)
  have fb2 := b3.froz 2 (by simp)
  have fb3 := b3.froz 3 (by simp)
  have fb4 := b3.froz 4 (by simp)
  have fb5 := b3.froz 5 (by simp)
  have zb := b3.lt
  have cd0 := b4.cell 0 _ rfl
  have cd1 := b4.cell 1 _ rfl
  have fd0 := b4.froz 0 (by simp)
  have fd1 := b4.froz 1 (by simp)
  have zd := b4.lt
  have HB0 := Lib.hid hb0
  have K0 := Lib.hid b0
  have K1 := Lib.hid b1
  have K2 := Lib.hid b2
  have K3 := Lib.hid b3
  have K4 := Lib.hid b4
  have y0 := b0.lt
  have y1 := b1.lt
  have y2 := b2.lt
  clear b0 b1 b2 b3 b4 hb0
  go_region_with (with_reducible refine (HF.out WA.drew HB0.out.drew).mono ?_; rintro e w2 ⟨rfl, hb⟩; have b0 := K0.out.drew.below hb; have b1 := K1.out.drew.below hb; have b2 := K2.out.drew.below hb; have b3 := K3.out.drew.below hb; have b4 := K4.out.drew.below hb; have HB2 := Lib.hid (HB0.out.drew.trans (hb.mono HB0.out.drew.size)); clear hb a00 a01 a02 a03 a10 a11 a23 y0 y1 y2 cb0 fb0 cb1 fb1 cb2 fb2 cb3 fb3 cb4 fb4 cb5 fb5 cd0 fd0 cd1 fd1 zb zd; have m00 := b0.cell 0 _ rfl; have m01 := b0.cell 1 _ rfl; have m02 := b0.cell 2 _ rfl; have m03 := b0.cell 3 _ rfl; have m10 := b1.cell 0 _ rfl; have m11 := b1.cell 1 _ rfl; have m23 := b2.cell 3 _ rfl; have y0 := b0.lt; have y1 := b1.lt; have y2 := b2.lt; have c2b0 := b3.cell 0 _ rfl; have c2b1 := b3.cell 1 _ rfl; have c2b2 := b3.cell 2 _ rfl; have c2b3 := b3.cell 3 _ rfl; have c2b4 := b3.cell 4 _ rfl; have c2b5 := b3.cell 5 _ rfl; have f2b0 := b3.froz 0 (by simp); have f2b1 := b3.froz 1 (by simp); have f2b2 := b3.froz 2 (by simp); have f2b3 := b3.froz 3 (by simp); have f2b4 := b3.froz 4 (by simp); have f2b5 := b3.froz 5 (by simp); have z2b := b3.lt; have c2d0 := b4.cell 0 _ rfl; have c2d1 := b4.cell 1 _ rfl; have f2d0 := b4.froz 0 (by simp); have f2d1 := b4.froz 1 (by simp); have z2d := b4.lt; have M0 := Lib.hid b0; have M1 := Lib.hid b1; have M2 := Lib.hid b2; have M3 := Lib.hid b3; have M4 := Lib.hid b4; clear b0 b1 b2 b3 b4)
  all_goals
    have H1 := Lib.hid M3.out
    have H2 := Lib.hid M4.out
    clear HF K0 K1 K2 K3 K4 M0 M1 M2 M3 M4 HB0 y0 y1 y2 m00 m01 m02 m03 m10 m11 m23 c2b0 f2b0 c2b1 f2b1 c2b2 f2b2 c2b3 f2b3 c2b4 f2b4 c2b5 f2b5 c2d0 f2d0 c2d1 f2d1 z2b z2d
    have ho := out8 H1.out H2.out (by omega) (.int .i64 0) (.bool false) (.int .i64 (pm - m)) (.int .i64 0) (.int .i64 0) (.int .i64 0) (.int .i64 (tat : Nat)) (.slice A m k)
    have hb := below_out8 HB2.out (b := w.heap.size + 1 + 1 + 1) (b' := w.heap.size + 1 + 1 + 1 + 1) (by omega) (by omega) (.int .i64 0) (.bool false) (.int .i64 (pm - m)) (.int .i64 0) (.int .i64 0) (.int .i64 0) (.int .i64 (tat : Nat)) (.slice A m k)
    have k1 := ho.1
    have k2 := ho.2
    clear ho
    have e0 := k1.cell 0 _ rfl
    have e1 := k1.cell 1 _ rfl
    have e2 := k1.cell 2 _ rfl
    have e3 := k1.cell 3 _ rfl
    have e4 := k1.cell 4 _ rfl
    have e5 := k1.cell 5 _ rfl
    have g0 := k2.cell 0 _ rfl
    have g1 := k2.cell 1 _ rfl
    clear k1 k2
    clear H1 H2 HB2
    generalize World.setCell _ _ _ = WZ at e0 e1 e2 e3 e4 e5 g0 g1 hb ⊢
    go_wp2_with fail
    exact bodyPost_ret (v := .tuple #[.agg #[.int .i64 0, .bool false, .int .i64 (pm - m), .int .i64 0, .int .i64 0, .int .i64 0], .agg #[.int .i64 (tat : Nat), .slice A m k], .bool false]) (by simp [results, Try.results54, go_sem, e0, e1, e2, e3, e4, e5, g0, g1]) rfl (⟨rfl, hb⟩)

set_option maxHeartbeats 3200000 in
theorem cDo_peekR (w : World) (T Tau pm q s n now l2 x : Int) (tat : Nat) (A KA : Option Addr) (m k kn kc : Nat)
    (HF : Hid (∀ W, Below w.heap.size w W → Calls Try.prog 69 #[.agg #[.int .i64 T, .int .i64 Tau], .agg #[.int .i64 (tat : Nat), .slice A m k], .int .i64 now] W fun e w' => e = .returned (.agg #[.int .i64 0, .bool false, .int .i64 l2, .int .i64 x, .int .i64 0, .int .i64 now]) ∧ Below W.heap.size W w')) :
    Calls Try.prog 54 #[.agg #[.int .u8 1, .int .i64 T, .int .i64 Tau, .int .i64 pm], .agg #[.int .i64 (tat : Nat), .slice A m k], .agg #[.int .u8 4, .int .i64 q, .slice KA kn kc, .int .i64 n], .int .i64 now, .int .i64 s] w
      (ValEnd w (.tuple #[.agg #[.int .i64 0, .bool false, .int .i64 l2, .int .i64 x, .int .i64 0, .int .i64 now], .agg #[.int .i64 (tat : Nat), .slice A m k], .bool false])) := by
  go_enter Try.func54, Try.ntmps54
  go_wp2
  have b0 := ((((BlkL.new w [.int .u8 1, .int .i64 T, .int .i64 Tau, .int .i64 pm] 52).alloc (.cells #[.int .i64 (tat : Nat), .slice A m k] 83)).alloc (.cells #[.int .u8 4, .int .i64 q, .slice KA kn kc, .int .i64 n] 25)).alloc (.cells #[.int .i64 0, .bool false, .int .i64 0, .int .i64 0, .int .i64 0, .int .i64 0] 42)).alloc (.cells #[.int .i64 0, .slice none 0 0] 83)
  have b1 := (((BlkL.new (w.alloc (.cells #[.int .u8 1, .int .i64 T, .int .i64 Tau, .int .i64 pm] 52)) [.int .i64 (tat : Nat), .slice A m k] 83).alloc (.cells #[.int .u8 4, .int .i64 q, .slice KA kn kc, .int .i64 n] 25)).alloc (.cells #[.int .i64 0, .bool false, .int .i64 0, .int .i64 0, .int .i64 0, .int .i64 0] 42)).alloc (.cells #[.int .i64 0, .slice none 0 0] 83)
  have b2 := ((BlkL.new ((w.alloc (.cells #[.int .u8 1, .int .i64 T, .int .i64 Tau, .int .i64 pm] 52)).alloc (.cells #[.int .i64 (tat : Nat), .slice A m k] 83)) [.int .u8 4, .int .i64 q, .slice KA kn kc, .int .i64 n] 25).alloc (.cells #[.int .i64 0, .bool false, .int .i64 0, .int .i64 0, .int .i64 0, .int .i64 0] 42)).alloc (.cells #[.int .i64 0, .slice none 0 0] 83)
  have b3 := (BlkL.new (((w.alloc (.cells #[.int .u8 1, .int .i64 T, .int .i64 Tau, .int .i64 pm] 52)).alloc (.cells #[.int .i64 (tat : Nat), .slice A m k] 83)).alloc (.cells #[.int .u8 4, .int .i64 q, .slice KA kn kc, .int .i64 n] 25)) [.int .i64 0, .bool false, .int .i64 0, .int .i64 0, .int .i64 0, .int .i64 0] 42).alloc (.cells #[.int .i64 0, .slice none 0 0] 83)
  have b4 := BlkL.new ((((w.alloc (.cells #[.int .u8 1, .int .i64 T, .int .i64 Tau, .int .i64 pm] 52)).alloc (.cells #[.int .i64 (tat : Nat), .slice A m k] 83)).alloc (.cells #[.int .u8 4, .int .i64 q, .slice KA kn kc, .int .i64 n] 25)).alloc (.cells #[.int .i64 0, .bool false, .int .i64 0, .int .i64 0, .int .i64 0, .int .i64 0] 42)) [.int .i64 0, .slice none 0 0] 83
  have hb0 := below_a5 w (.cells #[.int .u8 1, .int .i64 T, .int .i64 Tau, .int .i64 pm] 52) (.cells #[.int .i64 (tat : Nat), .slice A m k] 83) (.cells #[.int .u8 4, .int .i64 q, .slice KA kn kc, .int .i64 n] 25) (.cells #[.int .i64 0, .bool false, .int .i64 0, .int .i64 0, .int .i64 0, .int .i64 0] 42) (.cells #[.int .i64 0, .slice none 0 0] 83)
  simp only [World.size_alloc, List.toArray] at b0 b1 b2 b3 b4 hb0
  generalize World.alloc _ _ = WA at b0 b1 b2 b3 b4 hb0 ⊢
  have a00 := b0.cell 0 _ rfl
  have a01 := b0.cell 1 _ rfl
  have a02 := b0.cell 2 _ rfl
  have a03 := b0.cell 3 _ rfl
  have a10 := b1.cell 0 _ rfl
  have a11 := b1.cell 1 _ rfl
  have a23 := b2.cell 3 _ rfl
  have cb0 := b3.cell 0 _ rfl
  have cb1 := b3.cell 1 _ rfl
  have cb2 := b3.cell 2 _ rfl
  have cb3 := b3.cell 3 _ rfl
  have cb4 := b3.cell 4 _ rfl
  have cb5 := b3.cell 5 _ rfl
  have fb0 := b3.froz 0 (by simp)
  have fb1 := b3.froz 1 (by simp)
  have fb2 := b3.froz 2 (by simp)
  have fb3 := b3.froz 3 (by simp)
  have fb4 := b3.froz 4 (by simp)
  have fb5 := b3.froz 5 (by simp)
  have zb := b3.lt
  have cd0 := b4.cell 0 _ rfl
  have cd1 := b4.cell 1 _ rfl
  have fd0 := b4.froz 0 (by simp)
  have fd1 := b4.froz 1 (by simp)
  have zd := b4.lt
  have HB0 := Lib.hid hb0
  have K0 := Lib.hid b0
  have K1 := Lib.hid b1
  have K2 := Lib.hid b2
  have K3 := Lib.hid b3
  have K4 := Lib.hid b4
  have y0 := b0.lt
  have y1 := b1.lt
  have y2 := b2.lt
  clear b0 b1 b2 b3 b4 hb0
  go_region_with (with_reducible refine (HF.out WA.drew HB0.out.drew).mono ?_; rintro e w2 ⟨rfl, hb⟩; have b0 := K0.out.drew.below hb; have b1 := K1.out.drew.below hb; have b2 := K2.out.drew.below hb; have b3 := K3.out.drew.below hb; have b4 := K4.out.drew.below hb; have HB2 := Lib.hid (HB0.out.drew.trans (hb.mono HB0.out.drew.size)); clear hb a00 a01 a02 a03 a10 a11 a23 y0 y1 y2 cb0 fb0 cb1 fb1 cb2 fb2 cb3 fb3 cb4 fb4 cb5 fb5 cd0 fd0 cd1 fd1 zb zd; have m00 := b0.cell 0 _ rfl; have m01 := b0.cell 1 _ rfl; have m02 := b0.cell 2 _ rfl; have m03 := b0.cell 3 _ rfl; have m10 := b1.cell 0 _ rfl; have m11 := b1.cell 1 _ rfl; have m23 := b2.cell 3 _ rfl; have y0 := b0.lt; have y1 := b1.lt; have y2 := b2.lt; have c2b0 := b3.cell 0 _ rfl; have c2b1 := b3.cell 1 _ rfl; have c2b2 := b3.cell 2 _ rfl; have c2b3 := b3.cell 3 _ rfl; have c2b4 := b3.cell 4 _ rfl; have c2b5 := b3.cell 5 _ rfl; have f2b0 := b3.froz 0 (by simp); have f2b1 := b3.froz 1 (by simp); have f2b2 := b3.froz 2 (by simp); have f2b3 := b3.froz 3 (by simp); have f2b4 := b3.froz 4 (by simp); have f2b5 := b3.froz 5 (by simp); have z2b := b3.lt; have c2d0 := b4.cell 0 _ rfl; have c2d1 := b4.cell 1 _ rfl; have f2d0 := b4.froz 0 (by simp); have f2d1 := b4.froz 1 (by simp); have z2d := b4.lt; have M0 := Lib.hid b0; have M1 := Lib.hid b1; have M2 := Lib.hid b2; have M3 := Lib.hid b3; have M4 := Lib.hid b4; clear b0 b1 b2 b3 b4)
  all_goals
    have H1 := Lib.hid M3.out
    have H2 := Lib.hid M4.out
    clear HF K0 K1 K2 K3 K4 M0 M1 M2 M3 M4 HB0 y0 y1 y2 m00 m01 m02 m03 m10 m11 m23 c2b0 f2b0 c2b1 f2b1 c2b2 f2b2 c2b3 f2b3 c2b4 f2b4 c2b5 f2b5 c2d0 f2d0 c2d1 f2d1 z2b z2d
    have ho := out8 H1.out H2.out (by omega) (.int .i64 0) (.bool false) (.int .i64 l2) (.int .i64 x) (.int .i64 0) (.int .i64 now) (.int .i64 (tat : Nat)) (.slice A m k)
    have hb := below_out8 HB2.out (b := w.heap.size + 1 + 1 + 1) (b' := w.heap.size + 1 + 1 + 1 + 1) (by omega) (by omega) (.int .i64 0) (.bool false) (.int .i64 l2) (.int .i64 x) (.int .i64 0) (.int .i64 now) (.int .i64 (tat : Nat)) (.slice A m k)
    have k1 := ho.1
    have k2 := ho.2
    clear ho
    have e0 := k1.cell 0 _ rfl
    have e1 := k1.cell 1 _ rfl
    have e2 := k1.cell 2 _ rfl
    have e3 := k1.cell 3 _ rfl
    have e4 := k1.cell 4 _ rfl
    have e5 := k1.cell 5 _ rfl
    have g0 := k2.cell 0 _ rfl
    have g1 := k2.cell 1 _ rfl
    clear k1 k2
    clear H1 H2 HB2
    generalize World.setCell _ _ _ = WZ at e0 e1 e2 e3 e4 e5 g0 g1 hb ⊢
    go_wp2_with fail
    exact bodyPost_ret (v := .tuple #[.agg #[.int .i64 0, .bool false, .int .i64 l2, .int .i64 x, .int .i64 0, .int .i64 now], .agg #[.int .i64 (tat : Nat), .slice A m k], .bool false]) (by simp [results, Try.results54, go_sem, e0, e1, e2, e3, e4, e5, g0, g1]) rfl (⟨rfl, hb⟩)

end Go.Proofs.Ytnkecjjfbllgdaa
