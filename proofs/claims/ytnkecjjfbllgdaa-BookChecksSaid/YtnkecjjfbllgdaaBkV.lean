/- The error of a call, by the document: Check, by ways. -/
import Derived.Test.YtnkecjjfbllgdaaBkI
namespace Go.Proofs.Ytnkecjjfbllgdaa
open Go.RowKit
set_option maxRecDepth 100000
set_option linter.unusedVariables false

set_option maxHeartbeats 400000 in
theorem wants_1 (w : World) : Calls Try.prog 31 #[.int .u8 1] w fun e w' => e = .returned (.int .u8 1) ∧ w' = w := by
  go_enter Try.func31, Try.ntmps31
  go_wp2
  go_ret
  exact ⟨rfl, rfl⟩

set_option maxHeartbeats 400000 in
theorem wants_2 (w : World) : Calls Try.prog 31 #[.int .u8 2] w fun e w' => e = .returned (.int .u8 2) ∧ w' = w := by
  go_enter Try.func31, Try.ntmps31
  go_wp2
  go_ret
  exact ⟨rfl, rfl⟩

set_option maxHeartbeats 400000 in
theorem wants_3 (w : World) : Calls Try.prog 31 #[.int .u8 3] w fun e w' => e = .returned (.int .u8 2) ∧ w' = w := by
  go_enter Try.func31, Try.ntmps31
  go_wp2
  go_ret
  exact ⟨rfl, rfl⟩

set_option maxHeartbeats 400000 in
theorem wants_4 (w : World) : Calls Try.prog 31 #[.int .u8 4] w fun e w' => e = .returned (.int .u8 0) ∧ w' = w := by
  go_enter Try.func31, Try.ntmps31
  go_wp2
  go_ret
  exact ⟨rfl, rfl⟩

set_option maxHeartbeats 1600000 in
theorem rchk_0 (w : World) (q N : Int) (A KA : Option Addr) (n c kn kc : Nat) :
    Calls Try.prog 14 #[.slice A n c, .agg #[.int .u8 0, .int .i64 q, .slice KA kn kc, .int .i64 N]] w (ValEnd w (.int .i64 1)) := by
  go_enter Try.func14, Try.ntmps14
  go_wp2
  go_ret
  exact ⟨rfl, below_a1 _ _⟩

set_option maxHeartbeats 1600000 in
theorem rchk_7 (w : World) (q N : Int) (A KA : Option Addr) (n c kn kc : Nat) (op : Nat)
    (d1 : decide ((op : Int) < 1) = false)
    (d2 : decide (6 < (op : Int)) = true) :
    Calls Try.prog 14 #[.slice A n c, .agg #[.int .u8 (op : Nat), .int .i64 q, .slice KA kn kc, .int .i64 N]] w (ValEnd w (.int .i64 1)) := by
  go_enter Try.func14, Try.ntmps14
  go_wp2
  go_ret
  exact ⟨rfl, below_a1 _ _⟩

set_option maxHeartbeats 1600000 in
theorem rchk_1_tick (w : World) (q N : Int) (A KA : Option Addr) (n c kn kc : Nat)
    (HT : Hid (∀ w, Calls Try.prog 30 #[.int .i64 N] w fun e w' => e = .returned (.bool false) ∧ w = w')) :
    Calls Try.prog 14 #[.slice A n c, .agg #[.int .u8 1, .int .i64 q, .slice KA kn kc, .int .i64 N]] w (ValEnd w (.int .i64 1)) := by
  go_enter Try.func14, Try.ntmps14
  go_wp2_with fail
  with_reducible refine (HT.out _).mono ?_
  rintro e w1 ⟨rfl, rfl⟩
  go_wp2
  go_ret
  exact ⟨rfl, below_a1 _ _⟩

set_option maxHeartbeats 1600000 in
theorem rchk_1_key (w : World) (q N : Int) (A KA : Option Addr) (n c kn kc : Nat)
    (HT : Hid (∀ w, Calls Try.prog 30 #[.int .i64 N] w fun e w' => e = .returned (.bool true) ∧ w = w'))
    (k1 : decide (255 < (kn : Int)) = true) :
    Calls Try.prog 14 #[.slice A n c, .agg #[.int .u8 1, .int .i64 q, .slice KA kn kc, .int .i64 N]] w (ValEnd w (.int .i64 2)) := by
  go_enter Try.func14, Try.ntmps14
  go_wp2_with fail
  with_reducible refine (HT.out _).mono ?_
  rintro e w1 ⟨rfl, rfl⟩
  go_wp2
  go_ret
  exact ⟨rfl, below_a1 _ _⟩

set_option maxHeartbeats 1600000 in
theorem rchk_1_pol (w : World) (q N : Int) (A KA : Option Addr) (n c kn kc : Nat) (pv : Int)
    (HT : Hid (∀ w, Calls Try.prog 30 #[.int .i64 N] w fun e w' => e = .returned (.bool true) ∧ w = w'))
    (k1 : decide (255 < (kn : Int)) = false)
    (hpv : (pv != 0) = true)
    (HP : Hid (∀ W, Below w.heap.size w W → Calls Try.prog 12 #[.slice A n c] W (ValEnd W (.int .i64 pv)))) :
    Calls Try.prog 14 #[.slice A n c, .agg #[.int .u8 1, .int .i64 q, .slice KA kn kc, .int .i64 N]] w (ValEnd w (.int .i64 pv)) := by
  go_enter Try.func14, Try.ntmps14
  go_wp2_with fail
  with_reducible refine (HT.out _).mono ?_
  rintro e w1 ⟨rfl, rfl⟩
  go_wp2_with fail
  with_reducible refine (HP.out _ (below_a1 _ _)).mono ?_
  rintro e w1 ⟨rfl, hb⟩
  have b0 := (BlkL.new w [.int .u8 1, .int .i64 q, .slice KA kn kc, .int .i64 N] 25).below hb
  have HB := Lib.hid ((below_a1 w _).trans (hb.mono (by simp)))
  have cb1 := b0.cell 1 _ rfl
  have cb0 := b0.cell 0 _ rfl
  clear hb b0
  go_wp2
  go_ret
  exact ⟨rfl, HB.out⟩

set_option maxHeartbeats 1600000 in
theorem rchk_1_neg (w : World) (q N : Int) (A KA : Option Addr) (n c kn kc : Nat)
    (HT : Hid (∀ w, Calls Try.prog 30 #[.int .i64 N] w fun e w' => e = .returned (.bool true) ∧ w = w'))
    (k1 : decide (255 < (kn : Int)) = false)
    (q1 : decide (q < 0) = true)
    (HP : Hid (∀ W, Below w.heap.size w W → Calls Try.prog 12 #[.slice A n c] W (ValEnd W (.int .i64 0)))) :
    Calls Try.prog 14 #[.slice A n c, .agg #[.int .u8 1, .int .i64 q, .slice KA kn kc, .int .i64 N]] w (ValEnd w (.int .i64 6)) := by
  go_enter Try.func14, Try.ntmps14
  go_wp2_with fail
  with_reducible refine (HT.out _).mono ?_
  rintro e w1 ⟨rfl, rfl⟩
  go_wp2_with fail
  with_reducible refine (HP.out _ (below_a1 _ _)).mono ?_
  rintro e w1 ⟨rfl, hb⟩
  have b0 := (BlkL.new w [.int .u8 1, .int .i64 q, .slice KA kn kc, .int .i64 N] 25).below hb
  have HB := Lib.hid ((below_a1 w _).trans (hb.mono (by simp)))
  have cb1 := b0.cell 1 _ rfl
  have cb0 := b0.cell 0 _ rfl
  clear hb b0
  go_wp2
  go_quiet (fail)
  go_wp2
  go_ret
  exact ⟨rfl, below_drewN HB.out _⟩

set_option maxHeartbeats 1600000 in
theorem rchk_1_big (w : World) (q N : Int) (A KA : Option Addr) (n c kn kc : Nat)
    (HT : Hid (∀ w, Calls Try.prog 30 #[.int .i64 N] w fun e w' => e = .returned (.bool true) ∧ w = w'))
    (k1 : decide (255 < (kn : Int)) = false)
    (q1 : decide (q < 0) = false)
    (q2 : decide ((n : Int) ≤ q) = true)
    (HP : Hid (∀ W, Below w.heap.size w W → Calls Try.prog 12 #[.slice A n c] W (ValEnd W (.int .i64 0)))) :
    Calls Try.prog 14 #[.slice A n c, .agg #[.int .u8 1, .int .i64 q, .slice KA kn kc, .int .i64 N]] w (ValEnd w (.int .i64 6)) := by
  go_enter Try.func14, Try.ntmps14
  go_wp2_with fail
  with_reducible refine (HT.out _).mono ?_
  rintro e w1 ⟨rfl, rfl⟩
  go_wp2_with fail
  with_reducible refine (HP.out _ (below_a1 _ _)).mono ?_
  rintro e w1 ⟨rfl, hb⟩
  have b0 := (BlkL.new w [.int .u8 1, .int .i64 q, .slice KA kn kc, .int .i64 N] 25).below hb
  have HB := Lib.hid ((below_a1 w _).trans (hb.mono (by simp)))
  have cb1 := b0.cell 1 _ rfl
  have cb0 := b0.cell 0 _ rfl
  clear hb b0
  go_wp2
  go_quiet (fail)
  go_wp2
  go_ret
  exact ⟨rfl, below_drewN HB.out _⟩

set_option maxHeartbeats 1600000 in
theorem rchk_1_false (w : World) (N : Int) (KA : Option Addr) (n c kn kc : Nat) (b off i kd : Nat)
    (HT : Hid (∀ w, Calls Try.prog 30 #[.int .i64 N] w fun e w' => e = .returned (.bool true) ∧ w = w'))
    (k1 : decide (255 < (kn : Int)) = false)
    (q1 : decide ((i : Int) < 0) = false)
    (q2 : decide ((n : Int) ≤ (i : Int)) = false)
    (q3 : (0 : Int) ≤ (i : Int))
    (q4 : (i : Int) < (n : Int))
    (q5 : decide (n ≤ i) = false)
    (q6 : i < n)
    (hb0 : b < w.heap.size)
    (hc : w.cell? ⟨b, off + i * 4, none⟩ = some (.int .u8 (kd : Nat)))
    (hne : ((1 : Int) != (kd : Int)) = true)
    (HW : Hid (∀ w, Calls Try.prog 31 #[.int .u8 1] w fun e w' => e = .returned (.int .u8 1) ∧ w' = w))
    (HP : Hid (∀ W, Below w.heap.size w W → Calls Try.prog 12 #[.slice (some ⟨b, off, none⟩) n c] W (ValEnd W (.int .i64 0)))) :
    Calls Try.prog 14 #[.slice (some ⟨b, off, none⟩) n c, .agg #[.int .u8 1, .int .i64 (i : Nat), .slice KA kn kc, .int .i64 N]] w (ValEnd w (.int .i64 6)) := by
  go_enter Try.func14, Try.ntmps14
  go_wp2_with fail
  with_reducible refine (HT.out _).mono ?_
  rintro e w1 ⟨rfl, rfl⟩
  go_wp2_with fail
  with_reducible refine (HP.out _ (below_a1 _ _)).mono ?_
  rintro e w1 ⟨rfl, hb⟩
  have b0 := (BlkL.new w [.int .u8 1, .int .i64 (i : Nat), .slice KA kn kc, .int .i64 N] 25).below hb
  have HB := Lib.hid ((below_a1 w _).trans (hb.mono (by simp)))
  have cb1 := b0.cell 1 _ rfl
  have cb0 := b0.cell 0 _ rfl
  have hck := (((below_a1 w (.cells #[.int .u8 1, .int .i64 (i : Nat), .slice KA kn kc, .int .i64 N] 25)).trans (hb.mono (by simp))).cell (p := ⟨b, off + i * 4, none⟩) hb0).trans hc
  clear hb b0
  go_wp2
  go_quiet ((go_at_call 31; exact Calls.quiet_of_same (HW.out _)))
  go_wp2
  go_ret
  exact ⟨rfl, below_drewN HB.out _⟩

set_option maxHeartbeats 1600000 in
theorem rchk_1_true (w : World) (N : Int) (KA : Option Addr) (n c kn kc : Nat) (b off i kd : Nat)
    (HT : Hid (∀ w, Calls Try.prog 30 #[.int .i64 N] w fun e w' => e = .returned (.bool true) ∧ w = w'))
    (k1 : decide (255 < (kn : Int)) = false)
    (q1 : decide ((i : Int) < 0) = false)
    (q2 : decide ((n : Int) ≤ (i : Int)) = false)
    (q3 : (0 : Int) ≤ (i : Int))
    (q4 : (i : Int) < (n : Int))
    (q5 : decide (n ≤ i) = false)
    (q6 : i < n)
    (hb0 : b < w.heap.size)
    (hc : w.cell? ⟨b, off + i * 4, none⟩ = some (.int .u8 (kd : Nat)))
    (hne : ((1 : Int) != (kd : Int)) = false)
    (HW : Hid (∀ w, Calls Try.prog 31 #[.int .u8 1] w fun e w' => e = .returned (.int .u8 1) ∧ w' = w))
    (HP : Hid (∀ W, Below w.heap.size w W → Calls Try.prog 12 #[.slice (some ⟨b, off, none⟩) n c] W (ValEnd W (.int .i64 0)))) :
    Calls Try.prog 14 #[.slice (some ⟨b, off, none⟩) n c, .agg #[.int .u8 1, .int .i64 (i : Nat), .slice KA kn kc, .int .i64 N]] w (ValEnd w (.int .i64 0)) := by
  go_enter Try.func14, Try.ntmps14
  go_wp2_with fail
  with_reducible refine (HT.out _).mono ?_
  rintro e w1 ⟨rfl, rfl⟩
  go_wp2_with fail
  with_reducible refine (HP.out _ (below_a1 _ _)).mono ?_
  rintro e w1 ⟨rfl, hb⟩
  have b0 := (BlkL.new w [.int .u8 1, .int .i64 (i : Nat), .slice KA kn kc, .int .i64 N] 25).below hb
  have HB := Lib.hid ((below_a1 w _).trans (hb.mono (by simp)))
  have cb1 := b0.cell 1 _ rfl
  have cb0 := b0.cell 0 _ rfl
  have hck := (((below_a1 w (.cells #[.int .u8 1, .int .i64 (i : Nat), .slice KA kn kc, .int .i64 N] 25)).trans (hb.mono (by simp))).cell (p := ⟨b, off + i * 4, none⟩) hb0).trans hc
  clear hb b0
  go_wp2
  go_quiet ((go_at_call 31; exact Calls.quiet_of_same (HW.out _)))
  go_wp2
  go_ret
  exact ⟨rfl, below_drewN HB.out _⟩

set_option maxHeartbeats 1600000 in
theorem rchk_2_key (w : World) (q N : Int) (A KA : Option Addr) (n c kn kc : Nat)
    (k1 : decide (255 < (kn : Int)) = true) :
    Calls Try.prog 14 #[.slice A n c, .agg #[.int .u8 2, .int .i64 q, .slice KA kn kc, .int .i64 N]] w (ValEnd w (.int .i64 2)) := by
  go_enter Try.func14, Try.ntmps14
  go_wp2
  go_ret
  exact ⟨rfl, below_a1 _ _⟩

set_option maxHeartbeats 1600000 in
theorem rchk_2_pol (w : World) (q N : Int) (A KA : Option Addr) (n c kn kc : Nat) (pv : Int)
    (k1 : decide (255 < (kn : Int)) = false)
    (hpv : (pv != 0) = true)
    (HP : Hid (∀ W, Below w.heap.size w W → Calls Try.prog 12 #[.slice A n c] W (ValEnd W (.int .i64 pv)))) :
    Calls Try.prog 14 #[.slice A n c, .agg #[.int .u8 2, .int .i64 q, .slice KA kn kc, .int .i64 N]] w (ValEnd w (.int .i64 pv)) := by
  go_enter Try.func14, Try.ntmps14
  go_wp2_with fail
  with_reducible refine (HP.out _ (below_a1 _ _)).mono ?_
  rintro e w1 ⟨rfl, hb⟩
  have b0 := (BlkL.new w [.int .u8 2, .int .i64 q, .slice KA kn kc, .int .i64 N] 25).below hb
  have HB := Lib.hid ((below_a1 w _).trans (hb.mono (by simp)))
  have cb1 := b0.cell 1 _ rfl
  have cb0 := b0.cell 0 _ rfl
  clear hb b0
  go_wp2
  go_ret
  exact ⟨rfl, HB.out⟩

set_option maxHeartbeats 1600000 in
theorem rchk_2_neg (w : World) (q N : Int) (A KA : Option Addr) (n c kn kc : Nat)
    (k1 : decide (255 < (kn : Int)) = false)
    (q1 : decide (q < 0) = true)
    (HP : Hid (∀ W, Below w.heap.size w W → Calls Try.prog 12 #[.slice A n c] W (ValEnd W (.int .i64 0)))) :
    Calls Try.prog 14 #[.slice A n c, .agg #[.int .u8 2, .int .i64 q, .slice KA kn kc, .int .i64 N]] w (ValEnd w (.int .i64 6)) := by
  go_enter Try.func14, Try.ntmps14
  go_wp2_with fail
  with_reducible refine (HP.out _ (below_a1 _ _)).mono ?_
  rintro e w1 ⟨rfl, hb⟩
  have b0 := (BlkL.new w [.int .u8 2, .int .i64 q, .slice KA kn kc, .int .i64 N] 25).below hb
  have HB := Lib.hid ((below_a1 w _).trans (hb.mono (by simp)))
  have cb1 := b0.cell 1 _ rfl
  have cb0 := b0.cell 0 _ rfl
  clear hb b0
  go_wp2
  go_quiet (fail)
  go_wp2
  go_ret
  exact ⟨rfl, below_drewN HB.out _⟩

set_option maxHeartbeats 1600000 in
theorem rchk_2_big (w : World) (q N : Int) (A KA : Option Addr) (n c kn kc : Nat)
    (k1 : decide (255 < (kn : Int)) = false)
    (q1 : decide (q < 0) = false)
    (q2 : decide ((n : Int) ≤ q) = true)
    (HP : Hid (∀ W, Below w.heap.size w W → Calls Try.prog 12 #[.slice A n c] W (ValEnd W (.int .i64 0)))) :
    Calls Try.prog 14 #[.slice A n c, .agg #[.int .u8 2, .int .i64 q, .slice KA kn kc, .int .i64 N]] w (ValEnd w (.int .i64 6)) := by
  go_enter Try.func14, Try.ntmps14
  go_wp2_with fail
  with_reducible refine (HP.out _ (below_a1 _ _)).mono ?_
  rintro e w1 ⟨rfl, hb⟩
  have b0 := (BlkL.new w [.int .u8 2, .int .i64 q, .slice KA kn kc, .int .i64 N] 25).below hb
  have HB := Lib.hid ((below_a1 w _).trans (hb.mono (by simp)))
  have cb1 := b0.cell 1 _ rfl
  have cb0 := b0.cell 0 _ rfl
  clear hb b0
  go_wp2
  go_quiet (fail)
  go_wp2
  go_ret
  exact ⟨rfl, below_drewN HB.out _⟩

set_option maxHeartbeats 1600000 in
theorem rchk_2_false (w : World) (N : Int) (KA : Option Addr) (n c kn kc : Nat) (b off i kd : Nat)
    (k1 : decide (255 < (kn : Int)) = false)
    (q1 : decide ((i : Int) < 0) = false)
    (q2 : decide ((n : Int) ≤ (i : Int)) = false)
    (q3 : (0 : Int) ≤ (i : Int))
    (q4 : (i : Int) < (n : Int))
    (q5 : decide (n ≤ i) = false)
    (q6 : i < n)
    (hb0 : b < w.heap.size)
    (hc : w.cell? ⟨b, off + i * 4, none⟩ = some (.int .u8 (kd : Nat)))
    (hne : ((2 : Int) != (kd : Int)) = true)
    (HW : Hid (∀ w, Calls Try.prog 31 #[.int .u8 2] w fun e w' => e = .returned (.int .u8 2) ∧ w' = w))
    (HP : Hid (∀ W, Below w.heap.size w W → Calls Try.prog 12 #[.slice (some ⟨b, off, none⟩) n c] W (ValEnd W (.int .i64 0)))) :
    Calls Try.prog 14 #[.slice (some ⟨b, off, none⟩) n c, .agg #[.int .u8 2, .int .i64 (i : Nat), .slice KA kn kc, .int .i64 N]] w (ValEnd w (.int .i64 6)) := by
  go_enter Try.func14, Try.ntmps14
  go_wp2_with fail
  with_reducible refine (HP.out _ (below_a1 _ _)).mono ?_
  rintro e w1 ⟨rfl, hb⟩
  have b0 := (BlkL.new w [.int .u8 2, .int .i64 (i : Nat), .slice KA kn kc, .int .i64 N] 25).below hb
  have HB := Lib.hid ((below_a1 w _).trans (hb.mono (by simp)))
  have cb1 := b0.cell 1 _ rfl
  have cb0 := b0.cell 0 _ rfl
  have hck := (((below_a1 w (.cells #[.int .u8 2, .int .i64 (i : Nat), .slice KA kn kc, .int .i64 N] 25)).trans (hb.mono (by simp))).cell (p := ⟨b, off + i * 4, none⟩) hb0).trans hc
  clear hb b0
  go_wp2
  go_quiet ((go_at_call 31; exact Calls.quiet_of_same (HW.out _)))
  go_wp2
  go_ret
  exact ⟨rfl, below_drewN HB.out _⟩

set_option maxHeartbeats 1600000 in
theorem rchk_2_true (w : World) (N : Int) (KA : Option Addr) (n c kn kc : Nat) (b off i kd : Nat)
    (k1 : decide (255 < (kn : Int)) = false)
    (q1 : decide ((i : Int) < 0) = false)
    (q2 : decide ((n : Int) ≤ (i : Int)) = false)
    (q3 : (0 : Int) ≤ (i : Int))
    (q4 : (i : Int) < (n : Int))
    (q5 : decide (n ≤ i) = false)
    (q6 : i < n)
    (hb0 : b < w.heap.size)
    (hc : w.cell? ⟨b, off + i * 4, none⟩ = some (.int .u8 (kd : Nat)))
    (hne : ((2 : Int) != (kd : Int)) = false)
    (HW : Hid (∀ w, Calls Try.prog 31 #[.int .u8 2] w fun e w' => e = .returned (.int .u8 2) ∧ w' = w))
    (HP : Hid (∀ W, Below w.heap.size w W → Calls Try.prog 12 #[.slice (some ⟨b, off, none⟩) n c] W (ValEnd W (.int .i64 0)))) :
    Calls Try.prog 14 #[.slice (some ⟨b, off, none⟩) n c, .agg #[.int .u8 2, .int .i64 (i : Nat), .slice KA kn kc, .int .i64 N]] w (ValEnd w (.int .i64 0)) := by
  go_enter Try.func14, Try.ntmps14
  go_wp2_with fail
  with_reducible refine (HP.out _ (below_a1 _ _)).mono ?_
  rintro e w1 ⟨rfl, hb⟩
  have b0 := (BlkL.new w [.int .u8 2, .int .i64 (i : Nat), .slice KA kn kc, .int .i64 N] 25).below hb
  have HB := Lib.hid ((below_a1 w _).trans (hb.mono (by simp)))
  have cb1 := b0.cell 1 _ rfl
  have cb0 := b0.cell 0 _ rfl
  have hck := (((below_a1 w (.cells #[.int .u8 2, .int .i64 (i : Nat), .slice KA kn kc, .int .i64 N] 25)).trans (hb.mono (by simp))).cell (p := ⟨b, off + i * 4, none⟩) hb0).trans hc
  clear hb b0
  go_wp2
  go_quiet ((go_at_call 31; exact Calls.quiet_of_same (HW.out _)))
  go_wp2
  go_ret
  exact ⟨rfl, below_drewN HB.out _⟩

set_option maxHeartbeats 1600000 in
theorem rchk_3_key (w : World) (q N : Int) (A KA : Option Addr) (n c kn kc : Nat)
    (k1 : decide (255 < (kn : Int)) = true) :
    Calls Try.prog 14 #[.slice A n c, .agg #[.int .u8 3, .int .i64 q, .slice KA kn kc, .int .i64 N]] w (ValEnd w (.int .i64 2)) := by
  go_enter Try.func14, Try.ntmps14
  go_wp2
  go_ret
  exact ⟨rfl, below_a1 _ _⟩

set_option maxHeartbeats 1600000 in
theorem rchk_3_pol (w : World) (q N : Int) (A KA : Option Addr) (n c kn kc : Nat) (pv : Int)
    (k1 : decide (255 < (kn : Int)) = false)
    (hpv : (pv != 0) = true)
    (HP : Hid (∀ W, Below w.heap.size w W → Calls Try.prog 12 #[.slice A n c] W (ValEnd W (.int .i64 pv)))) :
    Calls Try.prog 14 #[.slice A n c, .agg #[.int .u8 3, .int .i64 q, .slice KA kn kc, .int .i64 N]] w (ValEnd w (.int .i64 pv)) := by
  go_enter Try.func14, Try.ntmps14
  go_wp2_with fail
  with_reducible refine (HP.out _ (below_a1 _ _)).mono ?_
  rintro e w1 ⟨rfl, hb⟩
  have b0 := (BlkL.new w [.int .u8 3, .int .i64 q, .slice KA kn kc, .int .i64 N] 25).below hb
  have HB := Lib.hid ((below_a1 w _).trans (hb.mono (by simp)))
  have cb1 := b0.cell 1 _ rfl
  have cb0 := b0.cell 0 _ rfl
  clear hb b0
  go_wp2
  go_ret
  exact ⟨rfl, HB.out⟩

set_option maxHeartbeats 1600000 in
theorem rchk_3_neg (w : World) (q N : Int) (A KA : Option Addr) (n c kn kc : Nat)
    (k1 : decide (255 < (kn : Int)) = false)
    (q1 : decide (q < 0) = true)
    (HP : Hid (∀ W, Below w.heap.size w W → Calls Try.prog 12 #[.slice A n c] W (ValEnd W (.int .i64 0)))) :
    Calls Try.prog 14 #[.slice A n c, .agg #[.int .u8 3, .int .i64 q, .slice KA kn kc, .int .i64 N]] w (ValEnd w (.int .i64 6)) := by
  go_enter Try.func14, Try.ntmps14
  go_wp2_with fail
  with_reducible refine (HP.out _ (below_a1 _ _)).mono ?_
  rintro e w1 ⟨rfl, hb⟩
  have b0 := (BlkL.new w [.int .u8 3, .int .i64 q, .slice KA kn kc, .int .i64 N] 25).below hb
  have HB := Lib.hid ((below_a1 w _).trans (hb.mono (by simp)))
  have cb1 := b0.cell 1 _ rfl
  have cb0 := b0.cell 0 _ rfl
  clear hb b0
  go_wp2
  go_quiet (fail)
  go_wp2
  go_ret
  exact ⟨rfl, below_drewN HB.out _⟩

set_option maxHeartbeats 1600000 in
theorem rchk_3_big (w : World) (q N : Int) (A KA : Option Addr) (n c kn kc : Nat)
    (k1 : decide (255 < (kn : Int)) = false)
    (q1 : decide (q < 0) = false)
    (q2 : decide ((n : Int) ≤ q) = true)
    (HP : Hid (∀ W, Below w.heap.size w W → Calls Try.prog 12 #[.slice A n c] W (ValEnd W (.int .i64 0)))) :
    Calls Try.prog 14 #[.slice A n c, .agg #[.int .u8 3, .int .i64 q, .slice KA kn kc, .int .i64 N]] w (ValEnd w (.int .i64 6)) := by
  go_enter Try.func14, Try.ntmps14
  go_wp2_with fail
  with_reducible refine (HP.out _ (below_a1 _ _)).mono ?_
  rintro e w1 ⟨rfl, hb⟩
  have b0 := (BlkL.new w [.int .u8 3, .int .i64 q, .slice KA kn kc, .int .i64 N] 25).below hb
  have HB := Lib.hid ((below_a1 w _).trans (hb.mono (by simp)))
  have cb1 := b0.cell 1 _ rfl
  have cb0 := b0.cell 0 _ rfl
  clear hb b0
  go_wp2
  go_quiet (fail)
  go_wp2
  go_ret
  exact ⟨rfl, below_drewN HB.out _⟩

set_option maxHeartbeats 1600000 in
theorem rchk_3_false (w : World) (N : Int) (KA : Option Addr) (n c kn kc : Nat) (b off i kd : Nat)
    (k1 : decide (255 < (kn : Int)) = false)
    (q1 : decide ((i : Int) < 0) = false)
    (q2 : decide ((n : Int) ≤ (i : Int)) = false)
    (q3 : (0 : Int) ≤ (i : Int))
    (q4 : (i : Int) < (n : Int))
    (q5 : decide (n ≤ i) = false)
    (q6 : i < n)
    (hb0 : b < w.heap.size)
    (hc : w.cell? ⟨b, off + i * 4, none⟩ = some (.int .u8 (kd : Nat)))
    (hne : ((2 : Int) != (kd : Int)) = true)
    (HW : Hid (∀ w, Calls Try.prog 31 #[.int .u8 3] w fun e w' => e = .returned (.int .u8 2) ∧ w' = w))
    (HP : Hid (∀ W, Below w.heap.size w W → Calls Try.prog 12 #[.slice (some ⟨b, off, none⟩) n c] W (ValEnd W (.int .i64 0)))) :
    Calls Try.prog 14 #[.slice (some ⟨b, off, none⟩) n c, .agg #[.int .u8 3, .int .i64 (i : Nat), .slice KA kn kc, .int .i64 N]] w (ValEnd w (.int .i64 6)) := by
  go_enter Try.func14, Try.ntmps14
  go_wp2_with fail
  with_reducible refine (HP.out _ (below_a1 _ _)).mono ?_
  rintro e w1 ⟨rfl, hb⟩
  have b0 := (BlkL.new w [.int .u8 3, .int .i64 (i : Nat), .slice KA kn kc, .int .i64 N] 25).below hb
  have HB := Lib.hid ((below_a1 w _).trans (hb.mono (by simp)))
  have cb1 := b0.cell 1 _ rfl
  have cb0 := b0.cell 0 _ rfl
  have hck := (((below_a1 w (.cells #[.int .u8 3, .int .i64 (i : Nat), .slice KA kn kc, .int .i64 N] 25)).trans (hb.mono (by simp))).cell (p := ⟨b, off + i * 4, none⟩) hb0).trans hc
  clear hb b0
  go_wp2
  go_quiet ((go_at_call 31; exact Calls.quiet_of_same (HW.out _)))
  go_wp2
  go_ret
  exact ⟨rfl, below_drewN HB.out _⟩

set_option maxHeartbeats 1600000 in
theorem rchk_3_true (w : World) (N : Int) (KA : Option Addr) (n c kn kc : Nat) (b off i kd : Nat)
    (k1 : decide (255 < (kn : Int)) = false)
    (q1 : decide ((i : Int) < 0) = false)
    (q2 : decide ((n : Int) ≤ (i : Int)) = false)
    (q3 : (0 : Int) ≤ (i : Int))
    (q4 : (i : Int) < (n : Int))
    (q5 : decide (n ≤ i) = false)
    (q6 : i < n)
    (hb0 : b < w.heap.size)
    (hc : w.cell? ⟨b, off + i * 4, none⟩ = some (.int .u8 (kd : Nat)))
    (hne : ((2 : Int) != (kd : Int)) = false)
    (HW : Hid (∀ w, Calls Try.prog 31 #[.int .u8 3] w fun e w' => e = .returned (.int .u8 2) ∧ w' = w))
    (HP : Hid (∀ W, Below w.heap.size w W → Calls Try.prog 12 #[.slice (some ⟨b, off, none⟩) n c] W (ValEnd W (.int .i64 0)))) :
    Calls Try.prog 14 #[.slice (some ⟨b, off, none⟩) n c, .agg #[.int .u8 3, .int .i64 (i : Nat), .slice KA kn kc, .int .i64 N]] w (ValEnd w (.int .i64 0)) := by
  go_enter Try.func14, Try.ntmps14
  go_wp2_with fail
  with_reducible refine (HP.out _ (below_a1 _ _)).mono ?_
  rintro e w1 ⟨rfl, hb⟩
  have b0 := (BlkL.new w [.int .u8 3, .int .i64 (i : Nat), .slice KA kn kc, .int .i64 N] 25).below hb
  have HB := Lib.hid ((below_a1 w _).trans (hb.mono (by simp)))
  have cb1 := b0.cell 1 _ rfl
  have cb0 := b0.cell 0 _ rfl
  have hck := (((below_a1 w (.cells #[.int .u8 3, .int .i64 (i : Nat), .slice KA kn kc, .int .i64 N] 25)).trans (hb.mono (by simp))).cell (p := ⟨b, off + i * 4, none⟩) hb0).trans hc
  clear hb b0
  go_wp2
  go_quiet ((go_at_call 31; exact Calls.quiet_of_same (HW.out _)))
  go_wp2
  go_ret
  exact ⟨rfl, below_drewN HB.out _⟩

set_option maxHeartbeats 1600000 in
theorem rchk_4_key (w : World) (q N : Int) (A KA : Option Addr) (n c kn kc : Nat)
    (k1 : decide (255 < (kn : Int)) = true) :
    Calls Try.prog 14 #[.slice A n c, .agg #[.int .u8 4, .int .i64 q, .slice KA kn kc, .int .i64 N]] w (ValEnd w (.int .i64 2)) := by
  go_enter Try.func14, Try.ntmps14
  go_wp2
  go_ret
  exact ⟨rfl, below_a1 _ _⟩

set_option maxHeartbeats 1600000 in
theorem rchk_4_pol (w : World) (q N : Int) (A KA : Option Addr) (n c kn kc : Nat) (pv : Int)
    (k1 : decide (255 < (kn : Int)) = false)
    (hpv : (pv != 0) = true)
    (HP : Hid (∀ W, Below w.heap.size w W → Calls Try.prog 12 #[.slice A n c] W (ValEnd W (.int .i64 pv)))) :
    Calls Try.prog 14 #[.slice A n c, .agg #[.int .u8 4, .int .i64 q, .slice KA kn kc, .int .i64 N]] w (ValEnd w (.int .i64 pv)) := by
  go_enter Try.func14, Try.ntmps14
  go_wp2_with fail
  with_reducible refine (HP.out _ (below_a1 _ _)).mono ?_
  rintro e w1 ⟨rfl, hb⟩
  have b0 := (BlkL.new w [.int .u8 4, .int .i64 q, .slice KA kn kc, .int .i64 N] 25).below hb
  have HB := Lib.hid ((below_a1 w _).trans (hb.mono (by simp)))
  have cb1 := b0.cell 1 _ rfl
  have cb0 := b0.cell 0 _ rfl
  clear hb b0
  go_wp2
  go_ret
  exact ⟨rfl, HB.out⟩

set_option maxHeartbeats 1600000 in
theorem rchk_4_neg (w : World) (q N : Int) (A KA : Option Addr) (n c kn kc : Nat)
    (k1 : decide (255 < (kn : Int)) = false)
    (q1 : decide (q < 0) = true)
    (HP : Hid (∀ W, Below w.heap.size w W → Calls Try.prog 12 #[.slice A n c] W (ValEnd W (.int .i64 0)))) :
    Calls Try.prog 14 #[.slice A n c, .agg #[.int .u8 4, .int .i64 q, .slice KA kn kc, .int .i64 N]] w (ValEnd w (.int .i64 6)) := by
  go_enter Try.func14, Try.ntmps14
  go_wp2_with fail
  with_reducible refine (HP.out _ (below_a1 _ _)).mono ?_
  rintro e w1 ⟨rfl, hb⟩
  have b0 := (BlkL.new w [.int .u8 4, .int .i64 q, .slice KA kn kc, .int .i64 N] 25).below hb
  have HB := Lib.hid ((below_a1 w _).trans (hb.mono (by simp)))
  have cb1 := b0.cell 1 _ rfl
  have cb0 := b0.cell 0 _ rfl
  clear hb b0
  go_wp2
  go_quiet (fail)
  go_wp2
  go_ret
  exact ⟨rfl, below_drewN HB.out _⟩

set_option maxHeartbeats 1600000 in
theorem rchk_4_big (w : World) (q N : Int) (A KA : Option Addr) (n c kn kc : Nat)
    (k1 : decide (255 < (kn : Int)) = false)
    (q1 : decide (q < 0) = false)
    (q2 : decide ((n : Int) ≤ q) = true)
    (HP : Hid (∀ W, Below w.heap.size w W → Calls Try.prog 12 #[.slice A n c] W (ValEnd W (.int .i64 0)))) :
    Calls Try.prog 14 #[.slice A n c, .agg #[.int .u8 4, .int .i64 q, .slice KA kn kc, .int .i64 N]] w (ValEnd w (.int .i64 6)) := by
  go_enter Try.func14, Try.ntmps14
  go_wp2_with fail
  with_reducible refine (HP.out _ (below_a1 _ _)).mono ?_
  rintro e w1 ⟨rfl, hb⟩
  have b0 := (BlkL.new w [.int .u8 4, .int .i64 q, .slice KA kn kc, .int .i64 N] 25).below hb
  have HB := Lib.hid ((below_a1 w _).trans (hb.mono (by simp)))
  have cb1 := b0.cell 1 _ rfl
  have cb0 := b0.cell 0 _ rfl
  clear hb b0
  go_wp2
  go_quiet (fail)
  go_wp2
  go_ret
  exact ⟨rfl, below_drewN HB.out _⟩

set_option maxHeartbeats 1600000 in
theorem rchk_4_true (w : World) (N : Int) (A KA : Option Addr) (n c kn kc : Nat) (i : Nat)
    (k1 : decide (255 < (kn : Int)) = false)
    (q1 : decide ((i : Int) < 0) = false)
    (q2 : decide ((n : Int) ≤ (i : Int)) = false)
    (q3 : (0 : Int) ≤ (i : Int))
    (q4 : (i : Int) < (n : Int))
    (q5 : decide (n ≤ i) = false)
    (q6 : i < n)
    (HW : Hid (∀ w, Calls Try.prog 31 #[.int .u8 4] w fun e w' => e = .returned (.int .u8 0) ∧ w' = w))
    (HP : Hid (∀ W, Below w.heap.size w W → Calls Try.prog 12 #[.slice A n c] W (ValEnd W (.int .i64 0)))) :
    Calls Try.prog 14 #[.slice A n c, .agg #[.int .u8 4, .int .i64 (i : Nat), .slice KA kn kc, .int .i64 N]] w (ValEnd w (.int .i64 0)) := by
  go_enter Try.func14, Try.ntmps14
  go_wp2_with fail
  with_reducible refine (HP.out _ (below_a1 _ _)).mono ?_
  rintro e w1 ⟨rfl, hb⟩
  have b0 := (BlkL.new w [.int .u8 4, .int .i64 (i : Nat), .slice KA kn kc, .int .i64 N] 25).below hb
  have HB := Lib.hid ((below_a1 w _).trans (hb.mono (by simp)))
  have cb1 := b0.cell 1 _ rfl
  have cb0 := b0.cell 0 _ rfl
  clear hb b0
  go_wp2
  go_quiet ((go_at_call 31; exact Calls.quiet_of_same (HW.out _)))
  go_wp2
  go_ret
  exact ⟨rfl, below_drewN HB.out _⟩

set_option maxHeartbeats 1600000 in
theorem rchk_5_pol (w : World) (q N : Int) (A KA : Option Addr) (n c kn kc : Nat) (pv : Int)
    (hpv : (pv != 0) = true)
    (HP : Hid (∀ W, Below w.heap.size w W → Calls Try.prog 12 #[.slice A n c] W (ValEnd W (.int .i64 pv)))) :
    Calls Try.prog 14 #[.slice A n c, .agg #[.int .u8 5, .int .i64 q, .slice KA kn kc, .int .i64 N]] w (ValEnd w (.int .i64 pv)) := by
  go_enter Try.func14, Try.ntmps14
  go_wp2_with fail
  with_reducible refine (HP.out _ (below_a1 _ _)).mono ?_
  rintro e w1 ⟨rfl, hb⟩
  have b0 := (BlkL.new w [.int .u8 5, .int .i64 q, .slice KA kn kc, .int .i64 N] 25).below hb
  have HB := Lib.hid ((below_a1 w _).trans (hb.mono (by simp)))
  have cb1 := b0.cell 1 _ rfl
  have cb0 := b0.cell 0 _ rfl
  clear hb b0
  go_wp2
  go_ret
  exact ⟨rfl, HB.out⟩

set_option maxHeartbeats 1600000 in
theorem rchk_5_ok (w : World) (q N : Int) (A KA : Option Addr) (n c kn kc : Nat)
    (HP : Hid (∀ W, Below w.heap.size w W → Calls Try.prog 12 #[.slice A n c] W (ValEnd W (.int .i64 0)))) :
    Calls Try.prog 14 #[.slice A n c, .agg #[.int .u8 5, .int .i64 q, .slice KA kn kc, .int .i64 N]] w (ValEnd w (.int .i64 0)) := by
  go_enter Try.func14, Try.ntmps14
  go_wp2_with fail
  with_reducible refine (HP.out _ (below_a1 _ _)).mono ?_
  rintro e w1 ⟨rfl, hb⟩
  have b0 := (BlkL.new w [.int .u8 5, .int .i64 q, .slice KA kn kc, .int .i64 N] 25).below hb
  have HB := Lib.hid ((below_a1 w _).trans (hb.mono (by simp)))
  have cb1 := b0.cell 1 _ rfl
  have cb0 := b0.cell 0 _ rfl
  clear hb b0
  go_wp2
  go_quiet (fail)
  go_wp2
  go_ret
  exact ⟨rfl, below_drewN HB.out _⟩

set_option maxHeartbeats 1600000 in
theorem rchk_6_pol (w : World) (q N : Int) (A KA : Option Addr) (n c kn kc : Nat) (pv : Int)
    (hpv : (pv != 0) = true)
    (HP : Hid (∀ W, Below w.heap.size w W → Calls Try.prog 12 #[.slice A n c] W (ValEnd W (.int .i64 pv)))) :
    Calls Try.prog 14 #[.slice A n c, .agg #[.int .u8 6, .int .i64 q, .slice KA kn kc, .int .i64 N]] w (ValEnd w (.int .i64 pv)) := by
  go_enter Try.func14, Try.ntmps14
  go_wp2_with fail
  with_reducible refine (HP.out _ (below_a1 _ _)).mono ?_
  rintro e w1 ⟨rfl, hb⟩
  have b0 := (BlkL.new w [.int .u8 6, .int .i64 q, .slice KA kn kc, .int .i64 N] 25).below hb
  have HB := Lib.hid ((below_a1 w _).trans (hb.mono (by simp)))
  have cb1 := b0.cell 1 _ rfl
  have cb0 := b0.cell 0 _ rfl
  clear hb b0
  go_wp2
  go_ret
  exact ⟨rfl, HB.out⟩

set_option maxHeartbeats 1600000 in
theorem rchk_6_ok (w : World) (q N : Int) (A KA : Option Addr) (n c kn kc : Nat)
    (HP : Hid (∀ W, Below w.heap.size w W → Calls Try.prog 12 #[.slice A n c] W (ValEnd W (.int .i64 0)))) :
    Calls Try.prog 14 #[.slice A n c, .agg #[.int .u8 6, .int .i64 q, .slice KA kn kc, .int .i64 N]] w (ValEnd w (.int .i64 0)) := by
  go_enter Try.func14, Try.ntmps14
  go_wp2_with fail
  with_reducible refine (HP.out _ (below_a1 _ _)).mono ?_
  rintro e w1 ⟨rfl, hb⟩
  have b0 := (BlkL.new w [.int .u8 6, .int .i64 q, .slice KA kn kc, .int .i64 N] 25).below hb
  have HB := Lib.hid ((below_a1 w _).trans (hb.mono (by simp)))
  have cb1 := b0.cell 1 _ rfl
  have cb0 := b0.cell 0 _ rfl
  clear hb b0
  go_wp2
  go_quiet (fail)
  go_wp2
  go_ret
  exact ⟨rfl, below_drewN HB.out _⟩
end Go.Proofs.Ytnkecjjfbllgdaa
