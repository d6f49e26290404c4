/- The law TickClamps, and the contracts of the document's Clamp and of the law's awake. -/
import Derived.Test.YtpjgpiiibgogeaaTick
import Derived.Test.YtpjgpiiibgogeaaComp
namespace Go.Proofs.Ytpjgpiiibgogeaa
open Go.RowKit
set_option maxRecDepth 100000

theorem heldV_clamp (m : Nat) : heldV m = clampV (m : Int) := by
  unfold heldV clampV
  split <;> split <;> try split
  all_goals omega

set_option maxHeartbeats 400000 in
theorem rclamp_any (w : World) (a : Int) (h : a ≤ 9223372036854775807) : Calls Try.prog 76 #[.int .i64 a] w fun e w' => e = .returned (.int .i64 (clampV a)) ∧ Below w.heap.size w w' := by
  rcases Int.lt_or_le a 0 with h1 | h1
  · have HD := Lib.hid (clampV_lo h1)
    go_enter Try.func76, Try.ntmps76
    go_wp2
    go_ret
    exact ⟨by rw [HD.out]; rfl, Below.refl _ _⟩
  · obtain ⟨m, rfl⟩ := Int.eq_ofNat_of_zero_le h1
    have HD := Lib.hid (heldV_clamp m)
    go_enter Try.func76, Try.ntmps76
    go_wp2_with fail
    refine (word_any _ m (by omega)).mono ?_
    rintro e w1 ⟨A, n, c, xs, rfl, hnum, _, hb⟩
    go_wp2_with fail
    refine (held_any _ _ _ _ _ m hnum).mono ?_
    rintro e w2 ⟨rfl, rfl⟩
    go_wp2
    go_ret
    exact ⟨by rw [← HD.out]; rfl, hb⟩

end Go.Proofs.Ytpjgpiiibgogeaa
