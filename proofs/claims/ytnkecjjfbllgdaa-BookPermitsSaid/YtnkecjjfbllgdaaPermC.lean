/- Contracts of package perm: Check; and of the library's Grow and Concat. -/
import Derived.Test.YtnkecjjfbllgdaaPermP
import Derived.Lib.AppendZerosOnto
import Derived.Lib.SliceRun
namespace Go.Proofs.Ytnkecjjfbllgdaa
open Go.RowKit
set_option maxRecDepth 100000

theorem okList_append : ∀ (a b : List Int) (last : Int), okList last (a ++ b) = (okList last a && okList (a.getLastD last) b)
  | [], b, last => by simp [okList]
  | x :: a, b, last => by
    rw [List.cons_append, show okList last (x :: (a ++ b)) = (decide (last < x) && decide (1 ≤ x) && decide (x ≤ 4611686018427387903) && okList x (a ++ b)) from rfl,
      show okList last (x :: a) = (decide (last < x) && decide (1 ≤ x) && decide (x ≤ 4611686018427387903) && okList x a) from rfl, okList_append a b x, List.getLastD_cons]
    simp only [Bool.and_assoc]
def lastV (xs : List Int) (k : Nat) : Int := (xs.take k).getLastD 0
theorem lastV_zero (xs : List Int) : lastV xs 0 = 0 := rfl
theorem lastV_succ {xs : List Int} {k : Nat} (hk : k < xs.length) : lastV xs (k + 1) = xs.getD k 0 := by
  unfold lastV
  rw [List.take_succ_eq_append_getElem hk, List.getLastD_concat]
  simp [List.getD_eq_getElem?_getD, hk]
theorem okList_succ {xs : List Int} {k : Nat} (hk : k < xs.length) (h : okList 0 (xs.take k) = true) :
    okList 0 (xs.take (k + 1)) = (decide (lastV xs k < xs.getD k 0) && (decide (1 ≤ xs.getD k 0) && decide (xs.getD k 0 ≤ 4611686018427387903))) := by
  rw [List.take_succ_eq_append_getElem hk, okList_append, h]
  have e : xs.getD k 0 = xs[k] := by simp [List.getD_eq_getElem?_getD, hk]
  rw [e]
  unfold lastV
  simp [okList]
  rw [Bool.and_assoc]
theorem okList_not {xs : List Int} {k : Nat} (h : okList 0 (xs.take k) = false) : okList 0 xs = false := by
  have e : okList 0 xs = okList 0 (xs.take k ++ xs.drop k) := by rw [List.take_append_drop]
  rw [e, okList_append, h]; rfl

def ChkInv (w : World) (xs : List Int) (n : Nat) (iv lv : Value) (wr : World) : Prop :=
  ∃ k : Nat, k ≤ n ∧ iv = .int .i64 (k : Int) ∧ lv = .int .i64 (lastV xs k) ∧ okList 0 (xs.take k) = true ∧ wr = w

def semV (p : Int) (xs : List Int) : Int := if semB p xs = true then 0 else 3
theorem semB_of (p : Int) (xs : List Int) : semB p xs = ((decide (1 ≤ p) && decide (p ≤ 64)) && decide ((xs.length : Int) ≤ p) && okList 0 xs) := rfl

set_option maxHeartbeats 1600000 in
theorem permCheck_any (w : World) (B : Nat) (A : Option Addr) (n c : Nat) (xs : List Int) (p : Int) (h : ArgI w B A n c xs) (hB : B ≤ w.heap.size) :
    Calls Try.prog 45 #[.agg #[.int .i64 p, .slice A n c]] w (ValEnd w (.int .i64 (semV p xs))) := by
  have hl := h.len
  have hle := h.le
  have hcap := h.cap
  unfold maxLen at hcap
  have HC := Lib.hid (fun w => isCount_any w p)
  have HS := Lib.hid (fun w a => isSerial_any w a)
  have HA := Lib.hid ((h.more hB).below ((Below.refl _ w).alloc (Nat.le_refl _) (.cells #[.int .i64 p, .slice A n c] 93)))
  have HL := Lib.hid hl
  have HV : Hid (semV p xs = if ((decide (1 ≤ p) && decide (p ≤ 64)) && decide ((xs.length : Int) ≤ p) && okList 0 xs) = true then 0 else 3) := Lib.hid rfl
  rw [hl] at HV
  have hw0 : (Below w.heap.size w (w.alloc (.cells #[.int .i64 p, .slice A n c] 93))) := (Below.refl _ w).alloc (Nat.le_refl _) _
  have HW := Lib.hid hw0
  clear h hl hw0
  rcases hcnt : (decide (1 ≤ p) && decide (p ≤ 64)) with _ | _
  · rw [hcnt] at HC HV
    clear hcnt
    go_enter Try.func45, Try.ntmps45
    go_wp2_with fail
    with_reducible refine (HC.out _).mono ?_
    rintro e w1 ⟨rfl, rfl⟩
    go_wp2
    go_ret
    exact ⟨by rw [HV.out]; rfl, HW.out⟩
  · rw [hcnt] at HC HV
    clear hcnt
    by_cases hp : p < (n : Int)
    · have HV2 : Hid (semV p xs = 3) := Lib.hid (by rw [HV.out, decide_eq_false (show ¬ (n : Int) ≤ p by omega)]; rfl)
      have q : decide (p < (n : Int)) = true := decide_eq_true hp
      go_enter Try.func45, Try.ntmps45
      go_wp2_with fail
      with_reducible refine (HC.out _).mono ?_
      rintro e w1 ⟨rfl, rfl⟩
      go_wp2
      go_ret
      exact ⟨by rw [HV2.out]; rfl, HW.out⟩
    · rw [decide_eq_true (show (n : Int) ≤ p by omega), Bool.true_and, Bool.true_and] at HV
      have q : decide (p < (n : Int)) = false := decide_eq_false hp
      go_enter Try.func45, Try.ntmps45
      go_wp2_with fail
      with_reducible refine (HC.out _).mono ?_
      rintro e w1 ⟨rfl, rfl⟩
      go_wp2
      obtain ⟨w0, hw0⟩ : ∃ w0, w.alloc (.cells #[.int .i64 p, .slice A n c] 93) = w0 := ⟨_, rfl⟩
      rw [hw0] at HA HW
      go_loop [3, 21] (fun lv iv => ∃ k : Nat, k ≤ n ∧ iv = .int .i64 (k : Int) ∧ lv = .int .i64 (lastV xs k) ∧ okList 0 (xs.take k) = true) (fun _ iv => n - (intOf iv).toNat)
      case atStart => exact ⟨0, Nat.zero_le _, rfl, rfl, rfl⟩
      case round =>
        obtain ⟨k, hk, rfl, rfl, hok⟩ := hrel
        rw [hw0]
        rcases Nat.lt_or_ge k n with hlt | hge
        · obtain ⟨g, off, rfl, _, hc⟩ := HA.out.at_ (by omega)
          have hck := hc k hlt
          have hs := okList_succ (k := k) (by rw [HL.out]; exact hlt) hok
          have hls := lastV_succ (xs := xs) (k := k) (by rw [HL.out]; exact hlt)
          have HSk := Lib.hid (fun w => HS.out w (xs.getD k 0))
          have HNo := Lib.hid (fun h => okList_not (xs := xs) (k := k + 1) h)
          clear hc hok
          generalize xs.getD k 0 = d at *
          generalize lastV xs k = last at *
          have HLS := Lib.hid hls
          clear hls
          rcases hser : (decide (1 ≤ d) && decide (d ≤ 4611686018427387903)) with _ | _
          · rw [hser] at HSk hs
            have HV2 : Hid (semV p xs = 3) := Lib.hid (by rw [HV.out, HNo.out (by rw [hs]; simp)]; rfl)
            clear hs hser
            go_wp2_with fail
            with_reducible refine (HSk.out _).mono ?_
            rintro e w1 ⟨rfl, rfl⟩
            go_wp2
            go_ret
            exact ⟨by rw [HV2.out]; rfl, HW.out⟩
          · rw [hser] at HSk hs
            by_cases hdl : d ≤ last
            · have HV2 : Hid (semV p xs = 3) := Lib.hid (by rw [HV.out, HNo.out (by rw [hs, decide_eq_false (by omega)]; rfl)]; rfl)
              have q2 : decide (d ≤ last) = true := decide_eq_true hdl
              clear hs hser
              go_wp2_with fail
              with_reducible refine (HSk.out _).mono ?_
              rintro e w1 ⟨rfl, rfl⟩
              go_wp2
              go_ret
              exact ⟨by rw [HV2.out]; rfl, HW.out⟩
            · have HOK := Lib.hid (show okList 0 (xs.take (k + 1)) = true by rw [hs, decide_eq_true (by omega)]; rfl)
              have q2 : decide (d ≤ last) = false := decide_eq_false hdl
              clear hs hser
              go_wp2_with fail
              with_reducible refine (HSk.out _).mono ?_
              rintro e w1 ⟨rfl, rfl⟩
              go_wp2
              go_round
              case rel => exact ⟨k + 1, by omega, by go_num, by rw [HLS.out], HOK.out⟩
              case measure => simp [intOf]; omega
        · have HV2 : Hid (semV p xs = 0) := Lib.hid (by rw [HV.out]; rw [List.take_of_length_le (by rw [HL.out]; omega)] at hok; rw [hok]; rfl)
          clear hok
          go_wp2
          go_ret
          exact ⟨by rw [HV2.out]; rfl, HW.out⟩
end Go.Proofs.Ytnkecjjfbllgdaa
