/- Contracts of cell's functions: allow, peek. -/
import Derived.Test.YtnkecjjfbllgdaaBkA
namespace Go.Proofs.Ytnkecjjfbllgdaa
open Go.RowKit
set_option maxRecDepth 100000

theorem chk3 {T Tau : Int} {a b c : Nat} (hz : checkV T Tau = 0) (h1 : a ≤ 4611686018427387903) (h2 : b ≤ 4611686018427387903) (h3 : c ≤ 4611686018427387903) : chkV T Tau [(a : Int), (b : Int), (c : Int)] = 0 := by
  unfold chkV
  rw [if_pos]
  · exact hz
  · simp only [List.all_cons, List.all_nil, Bool.and_true, Bool.and_eq_true, isTick_iff]; omega
theorem chk2 {T Tau : Int} {a b : Nat} (hz : checkV T Tau = 0) (h1 : a ≤ 4611686018427387903) (h2 : b ≤ 4611686018427387903) : chkV T Tau [(a : Int), (b : Int)] = 0 := by
  unfold chkV
  rw [if_pos]
  · exact hz
  · simp only [List.all_cons, List.all_nil, Bool.and_true, Bool.and_eq_true, isTick_iff]; omega

set_option maxHeartbeats 1600000 in
theorem callow_any (w : World) (T Tau : Int) (tat : Nat) (A : Option Addr) (m k : Nat) (now n : Nat) (hz : checkV T Tau = 0) (h1 : tat ≤ 4611686018427387903) (h2 : now ≤ 4611686018427387903) (h3 : n ≤ 4611686018427387903) :
    Calls Try.prog 63 #[.agg #[.int .i64 T, .int .i64 Tau], .agg #[.int .i64 (tat : Nat), .slice A m k], .int .i64 (now : Nat), .int .i64 (n : Nat)] w
      (ValEnd w (.tuple #[repV ⟨0, grB T.toNat Tau.toNat tat now n, (leftV T.toNat Tau.toNat (tatV T.toNat Tau.toNat tat now n) now : Nat), (wtV T.toNat Tau.toNat tat now n : Nat), 0, (now : Nat)⟩,
        .agg #[.int .i64 (tatV T.toNat Tau.toNat tat now n : Nat), .slice none 0 0], .bool (grB T.toNat Tau.toNat tat now n && decide (0 < n))])) := by
  have HD := Lib.hid (fun w => gDecide_any w T Tau tat now n)
  unfold ddecV at HD
  simp only [chk3 hz h1 h2 h3, if_true, Int.toNat_natCast] at HD
  unfold decV at HD
  generalize leftV T.toNat Tau.toNat (tatV T.toNat Tau.toNat tat now n) now = l2 at *
  generalize tatV T.toNat Tau.toNat tat now n = t2 at *
  generalize wtV T.toNat Tau.toNat tat now n = x at *
  generalize grB T.toNat Tau.toNat tat now n = gb at *
  clear hz h1 h2 h3
  rcases gb with _ | _
  · go_enter Try.func63, Try.ntmps63
    go_wp2_with fail
    with_reducible refine (HD.out _).mono ?_
    rintro e w1 ⟨rfl, hb⟩
    have b1 := ((BlkL.new _ [.int .i64 0, .bool false, .int .i64 0, .int .i64 0, .int .i64 0, .int .i64 0] 42).alloc _).below hb
    have b2 := (BlkL.new _ [.int .i64 0, .slice none 0 0] 83).below hb
    simp only [World.size_alloc] at b1 b2
    have HB1 := Lib.hid ((below_a4 w _ _ _ _).trans (hb.mono (by simp; omega)))
    clear hb
    have cb0 := b1.cell 0 _ rfl
    have cb1 := b1.cell 1 _ rfl
    have cb2 := b1.cell 2 _ rfl
    have cb3 := b1.cell 3 _ rfl
    have cb4 := b1.cell 4 _ rfl
    have cb5 := b1.cell 5 _ rfl
    have fb0 := b1.froz 0 (by simp)
    have fb1 := b1.froz 1 (by simp)
    have fb2 := b1.froz 2 (by simp)
    have fb3 := b1.froz 3 (by simp)
    have fb4 := b1.froz 4 (by simp)
    have fb5 := b1.froz 5 (by simp)
    have zb := b1.lt
    have cd0 := b2.cell 0 _ rfl
    have cd1 := b2.cell 1 _ rfl
    have fd0 := b2.froz 0 (by simp)
    have fd1 := b2.froz 1 (by simp)
    have zd := b2.lt
    have yb := Nat.lt_succ_of_lt zb
    have yd := Nat.lt_succ_of_lt zd
    simp only [Nat.succ_eq_add_one] at yb yd
    have H1 := Lib.hid b1
    have H2 := Lib.hid b2
    clear b1 b2
    go_wp2
    go_region
    all_goals
      have ho := out8 H1.out H2.out (by omega) (.int .i64 0) (.bool false) (.int .i64 (l2 : Nat)) (.int .i64 (x : Nat)) (.int .i64 0) (.int .i64 (now : Nat)) (.int .i64 (t2 : Nat)) (.slice none 0 0)
      have hb := below_out8 HB1.out (b := w.heap.size + 1 + 1) (b' := w.heap.size + 1 + 1 + 1) (by omega) (by omega) (.int .i64 0) (.bool false) (.int .i64 (l2 : Nat)) (.int .i64 (x : Nat)) (.int .i64 0) (.int .i64 (now : Nat)) (.int .i64 (t2 : Nat)) (.slice none 0 0)
      have k1 := ho.1
      have k2 := ho.2
      clear ho
      have k1 := k1.alloc (.cells #[.bool false, .int .i64 (t2 : Nat), .int .i64 (x : Nat), .int .i64 (l2 : Nat)] 123)
      have k2 := k2.alloc (.cells #[.bool false, .int .i64 (t2 : Nat), .int .i64 (x : Nat), .int .i64 (l2 : Nat)] 123)
      have hb := hb.alloc hb.size (.cells #[.bool false, .int .i64 (t2 : Nat), .int .i64 (x : Nat), .int .i64 (l2 : Nat)] 123)
      have k1 := k1.alloc (.cells #[.int .i64 0, .bool false, .int .i64 (l2 : Nat), .int .i64 (x : Nat), .int .i64 0, .int .i64 (now : Nat)] 42)
      have k2 := k2.alloc (.cells #[.int .i64 0, .bool false, .int .i64 (l2 : Nat), .int .i64 (x : Nat), .int .i64 0, .int .i64 (now : Nat)] 42)
      have hb := hb.alloc hb.size (.cells #[.int .i64 0, .bool false, .int .i64 (l2 : Nat), .int .i64 (x : Nat), .int .i64 0, .int .i64 (now : Nat)] 42)
      have k1 := k1.drew
      have k2 := k2.drew
      have hb := hb.drew
      have e0 := k1.cell 0 _ rfl
      have e1 := k1.cell 1 _ rfl
      have e2 := k1.cell 2 _ rfl
      have e3 := k1.cell 3 _ rfl
      have e4 := k1.cell 4 _ rfl
      have e5 := k1.cell 5 _ rfl
      have g0 := k2.cell 0 _ rfl
      have g1 := k2.cell 1 _ rfl
      clear k1 k2
      clear cb0 cb1 cb2 cb3 cb4 cb5 fb0 fb1 fb2 fb3 fb4 fb5 cd0 cd1 fd0 fd1 HD H1 H2 HB1 yb yd zb zd
      generalize World.drew _ = WZ at e0 e1 e2 e3 e4 e5 g0 g1 hb ⊢
      go_wp2
      exact bodyPost_ret (v := .tuple #[repV ⟨0, false, (l2 : Nat), (x : Nat), 0, (now : Nat)⟩, .agg #[.int .i64 (t2 : Nat), .slice none 0 0], .bool (false && decide (0 < n))]) (by simp [results, Try.results63, go_sem, e0, e1, e2, e3, e4, e5, g0, g1]) rfl ⟨rfl, hb⟩
  · go_enter Try.func63, Try.ntmps63
    go_wp2_with fail
    with_reducible refine (HD.out _).mono ?_
    rintro e w1 ⟨rfl, hb⟩
    have b1 := ((BlkL.new _ [.int .i64 0, .bool false, .int .i64 0, .int .i64 0, .int .i64 0, .int .i64 0] 42).alloc _).below hb
    have b2 := (BlkL.new _ [.int .i64 0, .slice none 0 0] 83).below hb
    simp only [World.size_alloc] at b1 b2
    have HB1 := Lib.hid ((below_a4 w _ _ _ _).trans (hb.mono (by simp; omega)))
    clear hb
    have cb0 := b1.cell 0 _ rfl
    have cb1 := b1.cell 1 _ rfl
    have cb2 := b1.cell 2 _ rfl
    have cb3 := b1.cell 3 _ rfl
    have cb4 := b1.cell 4 _ rfl
    have cb5 := b1.cell 5 _ rfl
    have fb0 := b1.froz 0 (by simp)
    have fb1 := b1.froz 1 (by simp)
    have fb2 := b1.froz 2 (by simp)
    have fb3 := b1.froz 3 (by simp)
    have fb4 := b1.froz 4 (by simp)
    have fb5 := b1.froz 5 (by simp)
    have zb := b1.lt
    have cd0 := b2.cell 0 _ rfl
    have cd1 := b2.cell 1 _ rfl
    have fd0 := b2.froz 0 (by simp)
    have fd1 := b2.froz 1 (by simp)
    have zd := b2.lt
    have yb := Nat.lt_succ_of_lt zb
    have yd := Nat.lt_succ_of_lt zd
    simp only [Nat.succ_eq_add_one] at yb yd
    have H1 := Lib.hid b1
    have H2 := Lib.hid b2
    clear b1 b2
    go_wp2
    go_region
    all_goals
      have ho := out8 H1.out H2.out (by omega) (.int .i64 0) (.bool true) (.int .i64 (l2 : Nat)) (.int .i64 (x : Nat)) (.int .i64 0) (.int .i64 (now : Nat)) (.int .i64 (t2 : Nat)) (.slice none 0 0)
      have hb := below_out8 HB1.out (b := w.heap.size + 1 + 1) (b' := w.heap.size + 1 + 1 + 1) (by omega) (by omega) (.int .i64 0) (.bool true) (.int .i64 (l2 : Nat)) (.int .i64 (x : Nat)) (.int .i64 0) (.int .i64 (now : Nat)) (.int .i64 (t2 : Nat)) (.slice none 0 0)
      have k1 := ho.1
      have k2 := ho.2
      clear ho
      have k1 := k1.alloc (.cells #[.bool true, .int .i64 (t2 : Nat), .int .i64 (x : Nat), .int .i64 (l2 : Nat)] 123)
      have k2 := k2.alloc (.cells #[.bool true, .int .i64 (t2 : Nat), .int .i64 (x : Nat), .int .i64 (l2 : Nat)] 123)
      have hb := hb.alloc hb.size (.cells #[.bool true, .int .i64 (t2 : Nat), .int .i64 (x : Nat), .int .i64 (l2 : Nat)] 123)
      have k1 := k1.alloc (.cells #[.int .i64 0, .bool true, .int .i64 (l2 : Nat), .int .i64 (x : Nat), .int .i64 0, .int .i64 (now : Nat)] 42)
      have k2 := k2.alloc (.cells #[.int .i64 0, .bool true, .int .i64 (l2 : Nat), .int .i64 (x : Nat), .int .i64 0, .int .i64 (now : Nat)] 42)
      have hb := hb.alloc hb.size (.cells #[.int .i64 0, .bool true, .int .i64 (l2 : Nat), .int .i64 (x : Nat), .int .i64 0, .int .i64 (now : Nat)] 42)
      have k1 := k1.drew
      have k2 := k2.drew
      have hb := hb.drew
      have e0 := k1.cell 0 _ rfl
      have e1 := k1.cell 1 _ rfl
      have e2 := k1.cell 2 _ rfl
      have e3 := k1.cell 3 _ rfl
      have e4 := k1.cell 4 _ rfl
      have e5 := k1.cell 5 _ rfl
      have g0 := k2.cell 0 _ rfl
      have g1 := k2.cell 1 _ rfl
      clear k1 k2
      clear cb0 cb1 cb2 cb3 cb4 cb5 fb0 fb1 fb2 fb3 fb4 fb5 cd0 cd1 fd0 fd1 HD H1 H2 HB1 yb yd zb zd
      generalize World.drew _ = WZ at e0 e1 e2 e3 e4 e5 g0 g1 hb ⊢
      go_wp2
      exact bodyPost_ret (v := .tuple #[repV ⟨0, true, (l2 : Nat), (x : Nat), 0, (now : Nat)⟩, .agg #[.int .i64 (t2 : Nat), .slice none 0 0], .bool (true && decide (0 < n))]) (by simp [results, Try.results63, go_sem, e0, e1, e2, e3, e4, e5, g0, g1]) rfl ⟨rfl, hb⟩
end Go.Proofs.Ytnkecjjfbllgdaa
