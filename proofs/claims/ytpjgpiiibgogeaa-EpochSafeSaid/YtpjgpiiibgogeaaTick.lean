/- Contracts: the calls of package tick, and the document's answers for them that need no long numbers. -/
import Derived.Test.YtpjgpiiibgogeaaWord
namespace Go.Proofs.Ytpjgpiiibgogeaa
open Go.RowKit
set_option maxRecDepth 100000

/-- Is t a tick? -/
def isTick (t : Int) : Bool := decide (0 ≤ t ∧ t ≤ 4611686018427387903)
theorem isTick_iff {t : Int} : isTick t = true ↔ 0 ≤ t ∧ t ≤ 4611686018427387903 := by unfold isTick; simp
theorem isTick_not {t : Int} : isTick t = false ↔ t < 0 ∨ 4611686018427387903 < t := by unfold isTick; simp; omega

/-- The tick nearest to n. -/
def clampV (n : Int) : Int := if n < 0 then 0 else if 4611686018427387903 < n then 4611686018427387903 else n
theorem clampV_bd (n : Int) : 0 ≤ clampV n ∧ clampV n ≤ 4611686018427387903 := by
  unfold clampV; split <;> try split
  all_goals omega
theorem clampV_lo {n : Int} (h : n < 0) : clampV n = 0 := by unfold clampV; rw [if_pos h]
theorem clampV_hi {n : Int} (h : 4611686018427387903 < n) : clampV n = 4611686018427387903 := by unfold clampV; rw [if_neg (by omega), if_pos h]
theorem clampV_in {n : Int} (h : 0 ≤ n) (h' : n ≤ 4611686018427387903) : clampV n = n := by unfold clampV; rw [if_neg (by omega), if_neg (by omega)]

set_option maxHeartbeats 400000 in
theorem tform_any (w : World) (a : Int) : Calls Try.prog 65 #[.int .i64 a] w fun e w' => e = .returned (.bool (isTick a)) ∧ w = w' := by
  by_cases h1 : 0 ≤ a
  · have hd : isTick a = decide (a ≤ 4611686018427387903) := by unfold isTick; simp [h1]
    have HD := Lib.hid hd
    clear hd
    go_enter Try.func65, Try.ntmps65
    go_wp2
    go_ret
    exact ⟨by rw [HD.out]; rfl, rfl⟩
  · have hd : isTick a = false := by unfold isTick; simp [h1]
    have HD := Lib.hid hd
    have h2 : a < 0 := by omega
    clear hd h1
    go_enter Try.func65, Try.ntmps65
    go_wp2
    go_ret
    exact ⟨by rw [HD.out]; rfl, rfl⟩

set_option maxHeartbeats 400000 in
theorem rform_any (w : World) (a : Int) : Calls Try.prog 91 #[.int .i64 a] w fun e w' => e = .returned (.bool (isTick a)) ∧ w = w' := by
  by_cases h1 : 0 ≤ a
  · have hd : isTick a = decide (a ≤ 4611686018427387903) := by unfold isTick; simp [h1]
    have HD := Lib.hid hd
    clear hd
    go_enter Try.func91, Try.ntmps91
    go_wp2
    go_ret
    exact ⟨by rw [HD.out]; rfl, rfl⟩
  · have hd : isTick a = false := by unfold isTick; simp [h1]
    have HD := Lib.hid hd
    have h2 : a < 0 := by omega
    clear hd h1
    go_enter Try.func91, Try.ntmps91
    go_wp2
    go_ret
    exact ⟨by rw [HD.out]; rfl, rfl⟩

set_option maxHeartbeats 400000 in
theorem tclamp_any (w : World) (a : Int) : Calls Try.prog 127 #[.int .i64 a] w fun e w' => e = .returned (.int .i64 (clampV a)) ∧ w = w' := by
  rcases Int.lt_or_le a 0 with h1 | h1
  · have HD := Lib.hid (clampV_lo h1)
    go_enter Try.func127, Try.ntmps127
    go_wp2
    go_ret
    exact ⟨by rw [HD.out]; rfl, rfl⟩
  · rcases Int.lt_or_le 4611686018427387903 a with h2 | h2
    · have HD := Lib.hid (clampV_hi h2)
      go_enter Try.func127, Try.ntmps127
      go_wp2
      go_ret
      exact ⟨by rw [HD.out]; rfl, rfl⟩
    · have HD := Lib.hid (clampV_in h1 h2)
      go_enter Try.func127, Try.ntmps127
      go_wp2
      go_ret
      exact ⟨by rw [HD.out]; rfl, rfl⟩
end Go.Proofs.Ytpjgpiiibgogeaa
