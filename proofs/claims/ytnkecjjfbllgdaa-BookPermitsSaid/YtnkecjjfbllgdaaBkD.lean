/- cell.peek. -/
import Derived.Test.YtnkecjjfbllgdaaBkB
namespace Go.Proofs.Ytnkecjjfbllgdaa
open Go.RowKit
set_option maxRecDepth 100000
set_option linter.unusedVariables false
theorem max_sub (tat now : Nat) : (if ((tat : Int) - (now : Int)) < 0 then (0 : Int) else (tat : Int) - now) = ((tat - now : Nat) : Int) := by split <;> omega
set_option maxHeartbeats 1600000 in
theorem cpeek_any (w : World) (T Tau : Int) (tat : Nat) (A : Option Addr) (m k : Nat) (now : Nat) (hz : checkV T Tau = 0) (h1 : tat ≤ 4611686018427387903) (h2 : now ≤ 4611686018427387903) :
    Calls Try.prog 69 #[.agg #[.int .i64 T, .int .i64 Tau], .agg #[.int .i64 (tat : Nat), .slice A m k], .int .i64 (now : Nat)] w
      (ValEnd w (.agg #[.int .i64 0, .bool false, .int .i64 (leftV T.toNat Tau.toNat tat now : Nat), .int .i64 ((tat - now : Nat) : Int), .int .i64 0, .int .i64 (now : Nat)])) := by
  have HD := Lib.hid (fun w => gLeft_any w T Tau tat now)
  unfold dleftV at HD
  simp only [chk2 hz h1 h2, if_true, Int.toNat_natCast] at HD
  generalize leftV T.toNat Tau.toNat tat now = l2 at *
  have hm := max_sub tat now
  clear hz
  have q0 : (0 : Int) ≤ tat := by omega
  have q1 : (0 : Int) ≤ now := by omega
  have q2 : (tat : Int) ≤ 4611686018427387903 := by omega
  have q3 : (now : Int) ≤ 4611686018427387903 := by omega
  go_enter Try.func69, Try.ntmps69
  go_wp2_with fail
  with_reducible refine (HD.out _).mono ?_
  rintro e w1 ⟨rfl, hb⟩
  have b1 := ((BlkL.new _ [.int .i64 (tat : Nat), .slice A m k] 83).alloc _).below hb
  have b3 := (BlkL.new _ [.int .i64 0, .bool false, .int .i64 0, .int .i64 0, .int .i64 0, .int .i64 0] 42).below hb
  simp only [World.size_alloc] at b1 b3
  have HB1 := Lib.hid ((below_a3 w _ _ _).trans (hb.mono (by simp; omega)))
  clear hb
  have ct := b1.cell 0 _ rfl
  have cb0 := b3.cell 0 _ rfl
  have cb1 := b3.cell 1 _ rfl
  have cb2 := b3.cell 2 _ rfl
  have cb3 := b3.cell 3 _ rfl
  have cb4 := b3.cell 4 _ rfl
  have cb5 := b3.cell 5 _ rfl
  have fb0 := b3.froz 0 (by simp)
  have fb1 := b3.froz 1 (by simp)
  have fb2 := b3.froz 2 (by simp)
  have fb3 := b3.froz 3 (by simp)
  have fb4 := b3.froz 4 (by simp)
  have fb5 := b3.froz 5 (by simp)
  have H1 := Lib.hid b3
  clear b1 b3
  go_wp2_with fail
  have bz := H1.out.put6 (.int .i64 0) (.bool false) (.int .i64 (l2 : Nat)) (.int .i64 ((tat - now : Nat) : Int)) (.int .i64 0) (.int .i64 (now : Nat))
  have hb := below_put6 HB1.out (b := w.heap.size + 1 + 1) (by omega) (.int .i64 0) (.bool false) (.int .i64 (l2 : Nat)) (.int .i64 ((tat - now : Nat) : Int)) (.int .i64 0) (.int .i64 (now : Nat))
  have e0 := bz.cell 0 _ rfl
  have e1 := bz.cell 1 _ rfl
  have e2 := bz.cell 2 _ rfl
  have e3 := bz.cell 3 _ rfl
  have e4 := bz.cell 4 _ rfl
  have e5 := bz.cell 5 _ rfl
  clear bz ct cb0 cb1 cb2 cb3 cb4 cb5 fb0 fb1 fb2 fb3 fb4 fb5 H1 HB1 HD hm
  generalize World.setCell _ _ _ = WZ at e0 e1 e2 e3 e4 e5 hb ⊢
  exact bodyPost_ret (v := .agg #[.int .i64 0, .bool false, .int .i64 (l2 : Nat), .int .i64 ((tat - now : Nat) : Int), .int .i64 0, .int .i64 (now : Nat)]) (by simp [results, Try.results69, go_sem, e0, e1, e2, e3, e4, e5]) rfl ⟨rfl, hb⟩
end Go.Proofs.Ytnkecjjfbllgdaa
