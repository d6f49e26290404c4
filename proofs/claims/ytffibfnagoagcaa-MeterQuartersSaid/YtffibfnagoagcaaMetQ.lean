/- Contracts: slices.ContainsFunc with math.IsNaN. -/
import Derived.Test.YtffibfnagoagcaaMetL
namespace Go.Proofs.Ytffibfnagoagcaa
open Go.RowKit
set_option maxRecDepth 100000
set_option linter.unusedVariables false

def isNaNF : Value := .func (.func 36) #[] #[]
theorem any_take {xs : List Nat} {i : Nat} (h : i < xs.length) : (xs.take (i + 1)).any nanB = ((xs.take i).any nanB || nanB (xs.getD i 0)) := by
  rw [List.take_succ_eq_append_getElem h, List.any_append, List.getD_eq_getElem?_getD, List.getElem?_eq_getElem h]
  simp
set_option maxHeartbeats 800000 in
theorem indexNaN_any (w : World) (A : Option Addr) (n c : Nat) (xs : List Nat) (h : ArgF w w.heap.size A n c xs) :
    Calls Try.prog 63 #[.slice A n c, isNaNF] w fun e w' => ∃ r : Int, e = .returned (.int .i64 r) ∧ decide (0 ≤ r) = xs.any nanB ∧ w = w' := by
  have HA := Lib.hid h
  have hle := h.le
  have hcap := h.cap
  unfold maxLen at hcap
  have hlen := Lib.hid h.len
  clear h
  unfold isNaNF
  go_enter Try.func63, Try.ntmps63
  go_wp2
  go_loopw [8] (fun iv wr => ∃ i : Nat, i ≤ n ∧ iv = .int .i64 (i : Int) ∧ (xs.take i).any nanB = false ∧ wr = w) (fun iv _ => n - (intOf iv).toNat)
  case atStart => exact ⟨0, Nat.zero_le _, rfl, rfl, rfl⟩
  case round =>
    obtain ⟨i, hi, rfl, hf, rfl⟩ := hrel
    rcases Nat.lt_or_ge i n with h1 | h1
    · obtain ⟨bb, off, rfl, hB, hcell⟩ := HA.out.at_ (by omega)
      have q := hcell i h1
      have hil : i < xs.length := by rw [hlen.out]; exact h1
      have hx : xs.getD i 0 ≤ 18446744073709551615 := HA.out.fit _ (by rw [List.getD_eq_getElem?_getD, List.getElem?_eq_getElem hil]; exact List.getElem_mem hil)
      have hs := any_take hil
      rw [hf, Bool.false_or] at hs
      have HS := Lib.hid hs
      have HN := isNaN_any wr (xs.getD i 0) hx
      have ij : (i : Int) < (n : Int) := by omega
      clear hcell hs
      generalize hxx : xs.getD i 0 = x at *
      rcases hb : nanB x with _ | _
      · rw [hb] at HN HS
        go_wp2_with fail
        with_reducible refine HN.mono ?_
        rintro e w1 ⟨rfl, rfl⟩
        go_wp2
        go_roundw
        case rel => exact ⟨i + 1, by omega, by go_num, HS.out, trivial⟩
        case measure => simp [intOf]; omega
      · rw [hb] at HN HS
        have hall : xs.any nanB = true := by
          rw [← List.take_append_drop (i + 1) xs, List.any_append, HS.out, Bool.true_or]
        have HALL := Lib.hid hall
        clear hall
        go_wp2_with fail
        with_reducible refine HN.mono ?_
        rintro e w1 ⟨rfl, rfl⟩
        go_wp2
        go_ret
        exact ⟨_, rfl, by rw [HALL.out]; exact decide_eq_true (by omega), rfl⟩
    · obtain rfl : i = n := by omega
      have hall : xs.any nanB = false := by rw [← hf, List.take_of_length_le (by rw [hlen.out]; exact Nat.le_refl _)]
      have HALL := Lib.hid hall
      have jn : ¬ (i : Int) < (i : Int) := by omega
      clear hall hf
      go_wp2
      go_ret
      exact ⟨_, rfl, by rw [HALL.out]; decide, rfl⟩
theorem containsNaN_any (w : World) (A : Option Addr) (n c : Nat) (xs : List Nat) (h : ArgF w w.heap.size A n c xs) :
    Calls Try.prog 52 #[.slice A n c, isNaNF] w fun e w' => e = .returned (.bool (xs.any nanB)) ∧ w = w' := by
  have HI := indexNaN_any w A n c xs h
  unfold isNaNF at *
  go_enter Try.func52, Try.ntmps52
  go_wp2_with fail
  with_reducible refine HI.mono ?_
  rintro e w1 ⟨r, rfl, hr, rfl⟩
  go_wp2
  go_ret
  exact ⟨rfl, rfl⟩
end Go.Proofs.Ytffibfnagoagcaa
