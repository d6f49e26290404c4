/- Contract: mach.New. -/
import Derived.Test.YtpjgpiiibgogeaaMaC
import Derived.Deep.OwnRows
import Derived.Laws.OwnMore
namespace Go.Proofs.Ytpjgpiiibgogeaa
open Go.RowKit
set_option maxRecDepth 100000
set_option linter.unusedVariables false

theorem made_eq (z : Value) (n : Nat) : madeCells #[z] n = (List.replicate n z).toArray := by
  apply Array.ext'; rw [toList_madeCells_one]
theorem u64_inf : (Try.prog.info? 120).map (fun i => (i.zero, i.size, i.bytes)) = some (some (.int .u64 0), 1, 8) := by kernel_rfl
theorem rep_map (n : Nat) : List.replicate n (.int .u64 0) = (List.replicate n 0).map U := by simp [U]
theorem mz_len : (Try.zeroCells166.toList.drop 3).length = 384 := by kernel_rfl
theorem mz_take : Try.zeroCells166.toList = .slice none 0 0 :: .int .i64 0 :: .int .i64 0 :: Try.zeroCells166.toList.drop 3 := by kernel_rfl
theorem mz_set (v : Value) : Try.zeroCells166.setIfInBounds 0 v = (v :: .int .i64 0 :: .int .i64 0 :: Try.zeroCells166.toList.drop 3).toArray := by
  apply Array.ext'
  rw [Array.toList_setIfInBounds, mz_take]
  rfl
theorem mnew_bad (w : World) (n : Int) (h : n < 1 ∨ 4096 < n) :
    Calls Try.prog 51 #[.int .i64 n] w fun e w' => e = .returned (.tuple #[.pointer none, .int .i64 1]) ∧ w = w' := by
  have HS := Lib.hid (isSize_any w n)
  have e : (decide (1 ≤ n) && decide (n ≤ 4096)) = false := by
    rcases h with h | h <;> simp <;> omega
  rw [e] at HS
  clear h e
  go_enter Try.func51, Try.ntmps51
  go_wp2_with fail
  with_reducible refine HS.out.mono ?_
  rintro e w1 ⟨rfl, hw⟩
  subst hw
  go_wp2
  go_ret2
  exact ⟨rfl, rfl⟩

set_option maxHeartbeats 1600000 in
theorem mnew_ok (w : World) (n : Nat) (h1 : 1 ≤ n) (h2 : n ≤ 4096) :
    Calls Try.prog 51 #[.int .i64 (n : Int)] w fun e w' => ∃ b bw ring, e = .returned (.tuple #[.pointer (some ⟨b, 0, none⟩), .int .i64 0]) ∧ w.heap.size ≤ b ∧ w.heap.size ≤ bw ∧
      MachS w' b bw n (List.replicate n 0) 0 0 ring ∧ Below w.heap.size w w' := by
  have HS := Lib.hid (isSize_any w n)
  obtain ⟨i0, hi, hz0, hz1, hz2⟩ := info_parts u64_inf
  have e : (decide ((1 : Int) ≤ (n : Int)) && decide ((n : Int) ≤ 4096)) = true := by simp; omega
  rw [e] at HS
  clear e
  go_enter Try.func51, Try.ntmps51
  go_wp2_with fail
  with_reducible refine HS.out.mono ?_
  rintro e w1 ⟨rfl, hw⟩
  subst hw
  go_wp2_with (refine wpList_make_row _ rfl (.tmp 7) (.tmp 7) _ rfl 120 i0 (.int .u64 0) Try.underlying161 hi hz0 hz1 rfl .i64 .i64 n rfl rfl (by rw [hz2]; omega) (by omega) ?_)
  rw [made_eq]
  have hbw := BlkL.new w (List.replicate n (.int .u64 0)) 120
  have HBW := Lib.hid hbw
  have hsz : w.heap.size < (w.alloc (.cells (List.replicate n (.int .u64 0)).toArray 120)).heap.size := by simp
  have B1 := Lib.hid ((Below.refl w.heap.size w).alloc (Nat.le_refl _) (.cells (List.replicate n (.int .u64 0)).toArray 120))
  have hz : (w.alloc (.cells (List.replicate n (.int .u64 0)).toArray 120)).heap.size = w.heap.size + 1 := by simp
  generalize hw1 : w.alloc (.cells (List.replicate n (.int .u64 0)).toArray 120) = w1 at *
  clear hbw
  go_wp2
  go_ret2
  rw [mz_set]
  refine ⟨w.heap.size + 1, w.heap.size, _, rfl, by omega, Nat.le_refl _, ⟨?_, ?_, by simp, mz_len, by omega⟩, B1.out.alloc (by omega) _⟩
  · rw [← hz]; exact BlkL.new w1 _ _
  · rw [← rep_map]; exact HBW.out.alloc _
end Go.Proofs.Ytpjgpiiibgogeaa
