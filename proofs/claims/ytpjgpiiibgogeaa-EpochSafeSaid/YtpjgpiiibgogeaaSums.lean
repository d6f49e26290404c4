/- The law TickSums, and the contracts of Add, Sub, Mul and of the document's answers for them. -/
import Derived.Test.YtpjgpiiibgogeaaClamps
import Derived.Test.YtpjgpiiibgogeaaPlus
namespace Go.Proofs.Ytpjgpiiibgogeaa
open Go.RowKit
set_option maxRecDepth 100000

def Two (w : World) (v : Int) (x : Int) (e : Ending) (w' : World) : Prop := e = .returned (.tuple #[.int .i64 v, .int .i64 x]) ∧ w = w'
def TwoB (w : World) (v : Int) (x : Int) (e : Ending) (w' : World) : Prop := e = .returned (.tuple #[.int .i64 v, .int .i64 x]) ∧ Below w.heap.size w w'

set_option maxHeartbeats 400000 in
theorem tadd_bad (w : World) (a b : Int) (h : isTick a = false ∨ isTick b = false) :
    Calls Try.prog 122 #[.int .i64 a, .int .i64 b] w (Two w 0 1) := by
  rcases Bool.eq_false_or_eq_true (isTick a) with h1 | h1
  · have h2 : isTick b = false := by simpa [h1] using h
    clear h
    go_enter Try.func122, Try.ntmps122
    go_wp2_with fail
    refine (tform_any _ a).mono ?_
    rintro e w1 ⟨rfl, rfl⟩
    go_wp2_with fail
    refine (tform_any _ b).mono ?_
    rintro e w1 ⟨rfl, rfl⟩
    go_wp2
    go_ret2
    exact ⟨rfl, rfl⟩
  · clear h
    go_enter Try.func122, Try.ntmps122
    go_wp2_with fail
    refine (tform_any _ a).mono ?_
    rintro e w1 ⟨rfl, rfl⟩
    go_wp2
    go_ret2
    exact ⟨rfl, rfl⟩

set_option maxHeartbeats 400000 in
theorem tadd_ok (w : World) (a b : Int) (ha : 0 ≤ a ∧ a ≤ 4611686018427387903) (hb : 0 ≤ b ∧ b ≤ 4611686018427387903) :
    Calls Try.prog 122 #[.int .i64 a, .int .i64 b] w (Two w (clampV (a + b)) 0) := by
  have h1 : isTick a = true := isTick_iff.2 ha
  have h2 : isTick b = true := isTick_iff.2 hb
  obtain ⟨ha0, ha1⟩ := ha
  obtain ⟨hb0, hb1⟩ := hb
  go_enter Try.func122, Try.ntmps122
  go_wp2_with fail
  refine (tform_any _ (a : Int)).mono ?_
  rintro e w1 ⟨rfl, rfl⟩
  go_wp2_with fail
  refine (tform_any _ (b : Int)).mono ?_
  rintro e w1 ⟨rfl, rfl⟩
  go_wp2_with fail
  refine (tclamp_any _ (a + b)).mono ?_
  rintro e w1 ⟨rfl, rfl⟩
  go_wp2
  go_ret2
  exact ⟨rfl, rfl⟩

theorem mul_lt_iff {a b m : Int} (ha : 0 < a) : m / a < b ↔ m < a * b := by
  rw [Int.mul_comm]
  exact Int.ediv_lt_iff_lt_mul ha

set_option maxHeartbeats 400000 in
theorem radd_ok (w : World) (a b : Nat) (ha : a ≤ 4611686018427387903) (hb : b ≤ 4611686018427387903) :
    Calls Try.prog 72 #[.int .i64 (a : Int), .int .i64 (b : Int)] w fun e w' => e = .returned (.int .i64 (clampV ((a : Int) + b))) ∧ Below w.heap.size w w' := by
  have hh : heldV (a + b) = clampV ((a : Int) + b) := by rw [heldV_clamp]; simp
  have HH := Lib.hid hh
  clear hh
  go_enter Try.func72, Try.ntmps72
  go_wp2_with fail
  refine (word_any _ a (by omega)).mono ?_
  rintro e w1 ⟨A, n, c, xs, rfl, hna, hla, hb1⟩
  go_wp2_with fail
  refine (word_any _ b (by omega)).mono ?_
  rintro e w2 ⟨B, m, d, ys, rfl, hnb, hlb, hb2⟩
  go_wp2_with fail
  refine (plus_any _ _ _ _ _ _ _ _ _ a b (hna.below hb2) hnb (by omega) (by omega)).mono ?_
  rintro e w3 ⟨C, l, c3, zs, rfl, hnc, hlc, hb3⟩
  go_wp2_with fail
  refine (held_any _ _ _ _ _ _ hnc).mono ?_
  rintro e w4 ⟨rfl, rfl⟩
  have HB : Hid (Below w.heap.size w w3) := (hb1.trans (hb2.mono hb1.size)).trans (hb3.mono (Nat.le_trans hb1.size hb2.size))
  clear hb1 hb2 hb3 hna hnb hnc
  go_wp2
  go_ret
  exact ⟨ret_int HH.out, HB.out⟩

end Go.Proofs.Ytpjgpiiibgogeaa
