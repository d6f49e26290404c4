/- Contracts of the document's perm: Check, DocNew. -/
import Derived.Test.YthigbhhhhebjeaaPermD
namespace Go.Proofs.Ythigbhhhhebjeaa
open Go.RowKit
set_option maxRecDepth 100000

set_option maxHeartbeats 1600000 in
theorem refCheck_any (w : World) (B : Nat) (A : Option Addr) (n c : Nat) (xs : List Int) (p : Int) (h : ArgI w B A n c xs) (hB : B ≤ w.heap.size) :
    Calls Try.prog 44 #[.agg #[.int .i64 p, .slice A n c]] w (ValEnd w (.int .i64 (semV p xs))) := by
  have hl := h.len
  have hle := h.le
  have hcap := h.cap
  unfold maxLen at hcap
  have HA := Lib.hid ((h.more hB).below ((Below.refl _ w).alloc (Nat.le_refl _) (.cells #[.int .i64 p, .slice A n c] 73)))
  have HL := Lib.hid hl
  have HV : Hid (semV p xs = if ((decide (1 ≤ p) && decide (p ≤ 64)) && decide ((xs.length : Int) ≤ p) && okList 0 xs) = true then 0 else 3) := Lib.hid rfl
  rw [hl] at HV
  have hw0 : (Below w.heap.size w (w.alloc (.cells #[.int .i64 p, .slice A n c] 73))) := (Below.refl _ w).alloc (Nat.le_refl _) _
  have HW := Lib.hid hw0
  clear h hl hw0
  by_cases hp1 : p < 1
  · have HV2 : Hid (semV p xs = 3) := Lib.hid (by rw [HV.out, decide_eq_false (show ¬ 1 ≤ p by omega)]; rfl)
    have q : decide (p < 1) = true := decide_eq_true hp1
    go_enter Try.func44, Try.ntmps44
    go_wp2
    go_ret
    exact ⟨by rw [HV2.out]; rfl, HW.out⟩
  · have q1 : decide (p < 1) = false := decide_eq_false hp1
    by_cases hp2 : 64 < p
    · have HV2 : Hid (semV p xs = 3) := Lib.hid (by rw [HV.out, decide_eq_false (show ¬ p ≤ 64 by omega), Bool.and_false]; rfl)
      have q : decide (64 < p) = true := decide_eq_true hp2
      go_enter Try.func44, Try.ntmps44
      go_wp2
      go_ret
      exact ⟨by rw [HV2.out]; rfl, HW.out⟩
    · have q2 : decide (64 < p) = false := decide_eq_false hp2
      by_cases hp : p < (n : Int)
      · have HV2 : Hid (semV p xs = 3) := Lib.hid (by rw [HV.out, decide_eq_false (show ¬ (n : Int) ≤ p by omega), Bool.and_false]; rfl)
        have q : decide (p < (n : Int)) = true := decide_eq_true hp
        go_enter Try.func44, Try.ntmps44
        go_wp2
        go_ret
        exact ⟨by rw [HV2.out]; rfl, HW.out⟩
      · rw [decide_eq_true (show 1 ≤ p by omega), decide_eq_true (show p ≤ 64 by omega), decide_eq_true (show (n : Int) ≤ p by omega), Bool.true_and, Bool.true_and] at HV
        have q : decide (p < (n : Int)) = false := decide_eq_false hp
        clear hp1 hp2 hp
        go_enter Try.func44, Try.ntmps44
        go_wp2
        go_loop [24] (fun iv => ∃ k : Nat, k ≤ n ∧ iv = .int .i64 (k : Int) ∧ okList 0 (xs.take k) = true) (fun iv => n - (intOf iv).toNat)
        case atStart => exact ⟨0, Nat.zero_le _, rfl, rfl⟩
        case round =>
          obtain ⟨k, hk, rfl, hok⟩ := hrel
          rcases Nat.lt_or_ge k n with hlt | hge
          · obtain ⟨g, off, rfl, _, hc⟩ := HA.out.at_ (by omega)
            have hck := hc k hlt
            have hs := okList_succ (k := k) (by rw [HL.out]; exact hlt) hok
            have HNo := Lib.hid (fun h => okList_not (xs := xs) (k := k + 1) h)
            have hpk := fun hk0 : 0 < k => hc (k - 1) (by omega)
            have hlast : 0 < k → lastV xs k = xs.getD (k - 1) 0 := fun hk0 => by
              have := lastV_succ (xs := xs) (k := k - 1) (by rw [HL.out]; omega)
              rwa [Nat.sub_add_cancel hk0] at this
            have hlast0 : k = 0 → lastV xs k = 0 := fun h => by rw [h]; rfl
            clear hc hok
            generalize xs.getD k 0 = d at *
            generalize lastV xs k = last at *
            by_cases h1 : d < 1
            · have HV2 : Hid (semV p xs = 3) := Lib.hid (by rw [HV.out, HNo.out (by rw [hs, decide_eq_false (show ¬ 1 ≤ d by omega), Bool.false_and, Bool.and_false])]; rfl)
              have r1 : decide (d < 1) = true := decide_eq_true h1
              clear hs hpk hlast hlast0
              go_wp2
              go_ret
              exact ⟨by rw [HV2.out]; rfl, HW.out⟩
            · have r1 : decide (d < 1) = false := decide_eq_false h1
              by_cases h2 : 4611686018427387903 < d
              · have HV2 : Hid (semV p xs = 3) := Lib.hid (by rw [HV.out, HNo.out (by rw [hs, decide_eq_false (show ¬ d ≤ 4611686018427387903 by omega), Bool.and_false, Bool.and_false])]; rfl)
                have r2 : decide (4611686018427387903 < d) = true := decide_eq_true h2
                clear hs hpk hlast hlast0
                go_wp2
                go_ret
                exact ⟨by rw [HV2.out]; rfl, HW.out⟩
              · have r2 : decide (4611686018427387903 < d) = false := decide_eq_false h2
                rw [decide_eq_true (show 1 ≤ d by omega), decide_eq_true (show d ≤ 4611686018427387903 by omega), Bool.true_and, Bool.and_true] at hs
                rcases Nat.eq_zero_or_pos k with hk0 | hk0
                · have HOK := Lib.hid (show okList 0 (xs.take (k + 1)) = true by rw [hs, hlast0 hk0, decide_eq_true (by omega)])
                  clear hs hpk hlast hlast0
                  subst hk0
                  rw [Nat.add_zero] at hck
                  go_wp2
                  go_round
                  case rel => exact ⟨1, by omega, rfl, HOK.out⟩
                  case measure => simp [intOf]; omega
                · have r3 : decide ((0 : Int) < (k : Int)) = true := decide_eq_true (by omega)
                  have hpk := hpk hk0
                  rw [hlast hk0] at hs
                  clear hlast hlast0
                  have r4 : IntKind.i64.wrap ((k : Int) - 1) = ((k - 1 : Nat) : Int) := by
                    rw [show (k : Int) - 1 = ((k - 1 : Nat) : Int) by omega]; exact IntWalk.i64_in _ (by omega)
                  have hk1 : k - 1 < n := by omega
                  generalize xs.getD (k - 1) 0 = last at *
                  generalize hK : k - 1 = K at *
                  have HK := Lib.hid hK
                  clear hK
                  by_cases h3 : d ≤ last
                  · have HV2 : Hid (semV p xs = 3) := Lib.hid (by rw [HV.out, HNo.out (by rw [hs, decide_eq_false (by omega)])]; rfl)
                    have r5 : decide (d ≤ last) = true := decide_eq_true h3
                    clear hs
                    go_wp2
                    go_ret
                    exact ⟨by rw [HV2.out]; rfl, HW.out⟩
                  · have HOK := Lib.hid (show okList 0 (xs.take (k + 1)) = true by rw [hs, decide_eq_true (by omega)])
                    have r5 : decide (d ≤ last) = false := decide_eq_false h3
                    clear hs
                    go_wp2
                    go_round
                    case rel => exact ⟨k + 1, by omega, by go_num, HOK.out⟩
                    case measure => simp [intOf]; omega
          · have HV2 : Hid (semV p xs = 0) := Lib.hid (by rw [HV.out]; rw [List.take_of_length_le (by rw [HL.out]; omega)] at hok; rw [hok]; rfl)
            clear hok
            go_wp2
            go_ret
            exact ⟨by rw [HV2.out]; rfl, HW.out⟩
end Go.Proofs.Ythigbhhhhebjeaa
