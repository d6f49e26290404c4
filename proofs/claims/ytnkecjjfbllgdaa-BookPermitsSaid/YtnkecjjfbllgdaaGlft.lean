/- Contracts of package gcra: Left, Idle. -/
import Derived.Test.YtnkecjjfbllgdaaGchk
namespace Go.Proofs.Ytnkecjjfbllgdaa
open Go.RowKit
set_option maxRecDepth 100000

/-- What Left answers. -/
def dleftV (T Tau tat now : Int) : Value :=
  if chkV T Tau [tat, now] = 0 then .tuple #[.int .i64 ((leftV T.toNat Tau.toNat tat.toNat now.toNat : Nat) : Int), .int .i64 0] else .tuple #[.int .i64 0, .int .i64 1]
/-- What Idle answers. -/
def didleV (tat now : Int) : Value := if isTick tat && isTick now then .tuple #[.bool (decide (tat ≤ now)), .int .i64 0] else .tuple #[.bool false, .int .i64 1]

set_option maxHeartbeats 800000 in
theorem gLeft_bad (w : World) (T Tau tat now : Int) (hc : chkV T Tau [tat, now] = 1) :
    Calls Try.prog 77 #[.agg #[.int .i64 T, .int .i64 Tau], .int .i64 tat, .int .i64 now] w (ValEnd w (.tuple #[.int .i64 0, .int .i64 1])) := by
  have HC := Lib.hid (fun W b hb => gcheck_two W b T Tau tat now hb)
  rw [hc] at HC
  clear hc
  go_enter Try.func77, Try.ntmps77
  go_wp2_with fail
  refine (HC.out _ _ (by simp)).mono ?_
  rintro e w1 ⟨rfl, hb⟩
  have HB1 := Lib.hid (((Below.refl w.heap.size w).alloc (Nat.le_refl _) _).alloc (by simp) _ |>.trans (hb.mono (by simp; omega)))
  clear hb
  go_wp2
  go_ret2
  exact ⟨rfl, HB1.out⟩

set_option maxHeartbeats 800000 in
theorem gLeft_good (w : World) (T Tau tat now : Nat) (hc : chkV (T : Int) (Tau : Int) [(tat : Int), (now : Int)] = 0) :
    Calls Try.prog 77 #[.agg #[.int .i64 (T : Int), .int .i64 (Tau : Int)], .int .i64 (tat : Int), .int .i64 (now : Int)] w (ValEnd w (.tuple #[.int .i64 ((leftV T Tau tat now : Nat) : Int), .int .i64 0])) := by
  have hz := chkV_zero hc
  have q1 := hz.2.2.2.2 (tat : Int) (by simp)
  have q2 := hz.2.2.2.2 (now : Int) (by simp)
  have HD := Lib.hid (fun w => gleft_any w T Tau tat now (by omega) (by omega) (by omega) (by omega) (by omega))
  generalize leftV T Tau tat now = l2 at *
  have HC := Lib.hid (fun W b hb => gcheck_two W b (T : Int) (Tau : Int) (tat : Int) (now : Int) hb)
  rw [hc] at HC
  clear hc hz q1 q2
  go_enter Try.func77, Try.ntmps77
  go_wp2_with fail
  refine (HC.out _ _ (by simp)).mono ?_
  rintro e w1 ⟨rfl, hb⟩
  have bl := ((BlkL.new w [.int .i64 (T : Int), .int .i64 (Tau : Int)] 50).alloc (.cells #[.int .i64 (tat : Int), .int .i64 (now : Int)] 2)).below (by simpa using hb)
  have HB1 := Lib.hid (((Below.refl w.heap.size w).alloc (Nat.le_refl _) _).alloc (by simp) _ |>.trans (hb.mono (by simp; omega)))
  clear hb
  have c0 := bl.cell 0 _ rfl
  have c1 := bl.cell 1 _ rfl
  clear bl
  go_wp2_with fail
  refine (HD.out _).mono ?_
  rintro e w2 ⟨rfl, hb⟩
  have HB2 := Lib.hid (HB1.out.trans (hb.mono HB1.out.size))
  clear hb c0 c1
  go_wp2
  go_ret2
  exact ⟨rfl, HB2.out⟩

theorem gLeft_any (w : World) (T Tau tat now : Int) :
    Calls Try.prog 77 #[.agg #[.int .i64 T, .int .i64 Tau], .int .i64 tat, .int .i64 now] w (ValEnd w (dleftV T Tau tat now)) := by
  unfold dleftV
  rcases chkV_cases T Tau [tat, now] with hc | hc
  · rw [if_pos hc]
    have hz := chkV_zero hc
    have q1 := hz.2.2.2.2 tat (by simp)
    have q2 := hz.2.2.2.2 now (by simp)
    have h := gLeft_good w T.toNat Tau.toNat tat.toNat now.toNat (by rw [Int.toNat_of_nonneg (by omega), Int.toNat_of_nonneg (by omega), Int.toNat_of_nonneg (by omega), Int.toNat_of_nonneg (by omega)]; exact hc)
    rw [Int.toNat_of_nonneg (by omega), Int.toNat_of_nonneg (by omega), Int.toNat_of_nonneg (by omega), Int.toNat_of_nonneg (by omega)] at h
    exact h
  · rw [if_neg (by omega)]
    exact gLeft_bad w T Tau tat now hc

theorem areTicks_two (W : World) (b : Nat) (x y : Int) (hb : b = W.heap.size) :
    Calls Try.prog 102 #[.slice (some ⟨b, 0, none⟩) 2 2] (W.alloc (.cells #[.int .i64 x, .int .i64 y] 2)) fun e w' => e = .returned (.bool (isTick x && isTick y)) ∧ W.alloc (.cells #[.int .i64 x, .int .i64 y] 2) = w' := by
  subst hb
  have := areTicks_any (W.alloc (.cells #[.int .i64 x, .int .i64 y] 2)) (W.heap.size + 1) (some ⟨W.heap.size, 0, none⟩) 2 2 [x, y] (ints_lit W [x, y] 2 rfl (by omega))
  simpa using this
end Go.Proofs.Ytnkecjjfbllgdaa
