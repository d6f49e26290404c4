/- The error of a call, by the program: checkCall, by ways. -/
import Derived.Test.YtnkecjjfbllgdaaBkF
import Derived.Test.YtnkecjjfbllgdaaBkA
namespace Go.Proofs.Ytnkecjjfbllgdaa
open Go.RowKit
set_option maxRecDepth 100000
set_option linter.unusedVariables false


set_option maxHeartbeats 400000 in
theorem isKind_1 (w : World) (kd : Nat) : Calls Try.prog 48 #[.int .u8 1, .int .u8 (kd : Nat)] w fun e w' => e = .returned (.bool (kindB 1 kd)) ∧ w' = w := by
  have hk : kindB 1 kd = ((kd : Int) == 1) := by unfold kindB; rw [Bool.eq_iff_iff]; simp; omega
  rw [hk]
  clear hk
  go_enter Try.func48, Try.ntmps48
  go_wp2
  go_ret
  exact ⟨rfl, rfl⟩


set_option maxHeartbeats 400000 in
theorem isKind_2 (w : World) (kd : Nat) : Calls Try.prog 48 #[.int .u8 2, .int .u8 (kd : Nat)] w fun e w' => e = .returned (.bool (kindB 2 kd)) ∧ w' = w := by
  have hk : kindB 2 kd = ((kd : Int) == 2) := by unfold kindB; rw [Bool.eq_iff_iff]; simp; omega
  rw [hk]
  clear hk
  go_enter Try.func48, Try.ntmps48
  go_wp2
  go_ret
  exact ⟨rfl, rfl⟩


set_option maxHeartbeats 400000 in
theorem isKind_3 (w : World) (kd : Nat) : Calls Try.prog 48 #[.int .u8 3, .int .u8 (kd : Nat)] w fun e w' => e = .returned (.bool (kindB 3 kd)) ∧ w' = w := by
  have hk : kindB 3 kd = ((kd : Int) == 2) := by unfold kindB; rw [Bool.eq_iff_iff]; simp; omega
  rw [hk]
  clear hk
  go_enter Try.func48, Try.ntmps48
  go_wp2
  go_ret
  exact ⟨rfl, rfl⟩


set_option maxHeartbeats 400000 in
theorem isKind_4 (w : World) (kd : Nat) : Calls Try.prog 48 #[.int .u8 4, .int .u8 (kd : Nat)] w fun e w' => e = .returned (.bool (kindB 4 kd)) ∧ w' = w := by
  have hk : kindB 4 kd = true := by rfl
  rw [hk]
  clear hk
  go_enter Try.func48, Try.ntmps48
  go_wp2
  go_ret
  exact ⟨rfl, rfl⟩

set_option maxHeartbeats 1600000 in
theorem chk_0 (w : World) (q N : Int) (A KA : Option Addr) (n c kn kc : Nat) :
    Calls Try.prog 29 #[.slice A n c, .agg #[.int .u8 0, .int .i64 q, .slice KA kn kc, .int .i64 N]] w (ValEnd w (.int .i64 1)) := by
  go_enter Try.func29, Try.ntmps29
  go_wp2
  go_ret
  exact ⟨rfl, below_a1 _ _⟩

set_option maxHeartbeats 1600000 in
theorem chk_7 (w : World) (q N : Int) (A KA : Option Addr) (n c kn kc : Nat) (op : Nat)
    (d1 : decide ((op : Int) < 1) = false)
    (d2 : decide (6 < (op : Int)) = true) :
    Calls Try.prog 29 #[.slice A n c, .agg #[.int .u8 (op : Nat), .int .i64 q, .slice KA kn kc, .int .i64 N]] w (ValEnd w (.int .i64 1)) := by
  go_enter Try.func29, Try.ntmps29
  go_wp2
  go_ret
  exact ⟨rfl, below_a1 _ _⟩

set_option maxHeartbeats 1600000 in
theorem chk_5 (w : World) (q N : Int) (A KA : Option Addr) (n c kn kc : Nat) :
    Calls Try.prog 29 #[.slice A n c, .agg #[.int .u8 5, .int .i64 q, .slice KA kn kc, .int .i64 N]] w (ValEnd w (.int .i64 0)) := by
  go_enter Try.func29, Try.ntmps29
  go_wp2
  go_ret
  exact ⟨rfl, below_a1 _ _⟩

set_option maxHeartbeats 1600000 in
theorem chk_6 (w : World) (q N : Int) (A KA : Option Addr) (n c kn kc : Nat) :
    Calls Try.prog 29 #[.slice A n c, .agg #[.int .u8 6, .int .i64 q, .slice KA kn kc, .int .i64 N]] w (ValEnd w (.int .i64 0)) := by
  go_enter Try.func29, Try.ntmps29
  go_wp2
  go_ret
  exact ⟨rfl, below_a1 _ _⟩

set_option maxHeartbeats 1600000 in
theorem chk_1_tick (w : World) (q N : Int) (A KA : Option Addr) (n c kn kc : Nat)
    (HT : Hid (∀ w, Calls Try.prog 47 #[.int .i64 N] w fun e w' => e = .returned (.bool false) ∧ w = w')) :
    Calls Try.prog 29 #[.slice A n c, .agg #[.int .u8 1, .int .i64 q, .slice KA kn kc, .int .i64 N]] w (ValEnd w (.int .i64 1)) := by
  go_enter Try.func29, Try.ntmps29
  go_wp2_with fail
  with_reducible refine (HT.out _).mono ?_
  rintro e w1 ⟨rfl, rfl⟩
  go_wp2
  go_ret
  exact ⟨rfl, below_a1 _ _⟩

set_option maxHeartbeats 1600000 in
theorem chk_1_key (w : World) (q N : Int) (A KA : Option Addr) (n c kn kc : Nat)
    (HT : Hid (∀ w, Calls Try.prog 47 #[.int .i64 N] w fun e w' => e = .returned (.bool true) ∧ w = w'))
    (k1 : decide (255 < (kn : Int)) = true) :
    Calls Try.prog 29 #[.slice A n c, .agg #[.int .u8 1, .int .i64 q, .slice KA kn kc, .int .i64 N]] w (ValEnd w (.int .i64 2)) := by
  go_enter Try.func29, Try.ntmps29
  go_wp2_with fail
  with_reducible refine (HT.out _).mono ?_
  rintro e w1 ⟨rfl, rfl⟩
  go_wp2
  go_ret
  exact ⟨rfl, below_a1 _ _⟩

set_option maxHeartbeats 1600000 in
theorem chk_1_neg (w : World) (q N : Int) (A KA : Option Addr) (n c kn kc : Nat)
    (HT : Hid (∀ w, Calls Try.prog 47 #[.int .i64 N] w fun e w' => e = .returned (.bool true) ∧ w = w'))
    (k1 : decide (255 < (kn : Int)) = false)
    (q1 : decide (q < 0) = true) :
    Calls Try.prog 29 #[.slice A n c, .agg #[.int .u8 1, .int .i64 q, .slice KA kn kc, .int .i64 N]] w (ValEnd w (.int .i64 6)) := by
  go_enter Try.func29, Try.ntmps29
  go_wp2_with fail
  with_reducible refine (HT.out _).mono ?_
  rintro e w1 ⟨rfl, rfl⟩
  go_wp2
  go_quiet (fail)
  go_wp2
  go_ret
  exact ⟨rfl, below_drewN (below_a1 _ _) _⟩

set_option maxHeartbeats 1600000 in
theorem chk_1_big (w : World) (q N : Int) (A KA : Option Addr) (n c kn kc : Nat)
    (HT : Hid (∀ w, Calls Try.prog 47 #[.int .i64 N] w fun e w' => e = .returned (.bool true) ∧ w = w'))
    (k1 : decide (255 < (kn : Int)) = false)
    (q1 : decide (q < 0) = false)
    (q2 : decide ((n : Int) ≤ q) = true) :
    Calls Try.prog 29 #[.slice A n c, .agg #[.int .u8 1, .int .i64 q, .slice KA kn kc, .int .i64 N]] w (ValEnd w (.int .i64 6)) := by
  go_enter Try.func29, Try.ntmps29
  go_wp2_with fail
  with_reducible refine (HT.out _).mono ?_
  rintro e w1 ⟨rfl, rfl⟩
  go_wp2
  go_quiet (fail)
  go_wp2
  go_ret
  exact ⟨rfl, below_drewN (below_a1 _ _) _⟩

set_option maxHeartbeats 1600000 in
theorem chk_1_false (w : World) (N : Int) (KA : Option Addr) (n c kn kc : Nat) (b off i kd : Nat)
    (HT : Hid (∀ w, Calls Try.prog 47 #[.int .i64 N] w fun e w' => e = .returned (.bool true) ∧ w = w'))
    (k1 : decide (255 < (kn : Int)) = false)
    (q1 : decide ((i : Int) < 0) = false)
    (q2 : decide ((n : Int) ≤ (i : Int)) = false)
    (q3 : (0 : Int) ≤ (i : Int))
    (q4 : (i : Int) < (n : Int))
    (q5 : decide (n ≤ i) = false)
    (q6 : i < n)
    (hb : b < w.heap.size)
    (hc : w.cell? ⟨b, off + i * 4, none⟩ = some (.int .u8 (kd : Nat)))
    (HI : Hid (∀ w, Calls Try.prog 48 #[.int .u8 1, .int .u8 (kd : Nat)] w fun e w' => e = .returned (.bool false) ∧ w' = w)) :
    Calls Try.prog 29 #[.slice (some ⟨b, off, none⟩) n c, .agg #[.int .u8 1, .int .i64 (i : Nat), .slice KA kn kc, .int .i64 N]] w (ValEnd w (.int .i64 6)) := by
  go_enter Try.func29, Try.ntmps29
  go_wp2_with fail
  with_reducible refine (HT.out _).mono ?_
  rintro e w1 ⟨rfl, rfl⟩
  go_wp2
  go_quiet ((go_at_call 48; exact Calls.quiet_of_same (HI.out _)))
  go_wp2
  go_ret
  exact ⟨rfl, below_drewN (below_a1 _ _) _⟩

set_option maxHeartbeats 1600000 in
theorem chk_1_true (w : World) (N : Int) (KA : Option Addr) (n c kn kc : Nat) (b off i kd : Nat)
    (HT : Hid (∀ w, Calls Try.prog 47 #[.int .i64 N] w fun e w' => e = .returned (.bool true) ∧ w = w'))
    (k1 : decide (255 < (kn : Int)) = false)
    (q1 : decide ((i : Int) < 0) = false)
    (q2 : decide ((n : Int) ≤ (i : Int)) = false)
    (q3 : (0 : Int) ≤ (i : Int))
    (q4 : (i : Int) < (n : Int))
    (q5 : decide (n ≤ i) = false)
    (q6 : i < n)
    (hb : b < w.heap.size)
    (hc : w.cell? ⟨b, off + i * 4, none⟩ = some (.int .u8 (kd : Nat)))
    (HI : Hid (∀ w, Calls Try.prog 48 #[.int .u8 1, .int .u8 (kd : Nat)] w fun e w' => e = .returned (.bool true) ∧ w' = w)) :
    Calls Try.prog 29 #[.slice (some ⟨b, off, none⟩) n c, .agg #[.int .u8 1, .int .i64 (i : Nat), .slice KA kn kc, .int .i64 N]] w (ValEnd w (.int .i64 0)) := by
  go_enter Try.func29, Try.ntmps29
  go_wp2_with fail
  with_reducible refine (HT.out _).mono ?_
  rintro e w1 ⟨rfl, rfl⟩
  go_wp2
  go_quiet ((go_at_call 48; exact Calls.quiet_of_same (HI.out _)))
  go_wp2
  go_ret
  exact ⟨rfl, below_drewN (below_a1 _ _) _⟩

set_option maxHeartbeats 1600000 in
theorem chk_2_key (w : World) (q N : Int) (A KA : Option Addr) (n c kn kc : Nat)
    (k1 : decide (255 < (kn : Int)) = true) :
    Calls Try.prog 29 #[.slice A n c, .agg #[.int .u8 2, .int .i64 q, .slice KA kn kc, .int .i64 N]] w (ValEnd w (.int .i64 2)) := by
  go_enter Try.func29, Try.ntmps29
  go_wp2
  go_ret
  exact ⟨rfl, below_a1 _ _⟩

set_option maxHeartbeats 1600000 in
theorem chk_2_neg (w : World) (q N : Int) (A KA : Option Addr) (n c kn kc : Nat)
    (k1 : decide (255 < (kn : Int)) = false)
    (q1 : decide (q < 0) = true) :
    Calls Try.prog 29 #[.slice A n c, .agg #[.int .u8 2, .int .i64 q, .slice KA kn kc, .int .i64 N]] w (ValEnd w (.int .i64 6)) := by
  go_enter Try.func29, Try.ntmps29
  go_wp2
  go_quiet (fail)
  go_wp2
  go_ret
  exact ⟨rfl, below_drewN (below_a1 _ _) _⟩

set_option maxHeartbeats 1600000 in
theorem chk_2_big (w : World) (q N : Int) (A KA : Option Addr) (n c kn kc : Nat)
    (k1 : decide (255 < (kn : Int)) = false)
    (q1 : decide (q < 0) = false)
    (q2 : decide ((n : Int) ≤ q) = true) :
    Calls Try.prog 29 #[.slice A n c, .agg #[.int .u8 2, .int .i64 q, .slice KA kn kc, .int .i64 N]] w (ValEnd w (.int .i64 6)) := by
  go_enter Try.func29, Try.ntmps29
  go_wp2
  go_quiet (fail)
  go_wp2
  go_ret
  exact ⟨rfl, below_drewN (below_a1 _ _) _⟩

set_option maxHeartbeats 1600000 in
theorem chk_2_false (w : World) (N : Int) (KA : Option Addr) (n c kn kc : Nat) (b off i kd : Nat)
    (k1 : decide (255 < (kn : Int)) = false)
    (q1 : decide ((i : Int) < 0) = false)
    (q2 : decide ((n : Int) ≤ (i : Int)) = false)
    (q3 : (0 : Int) ≤ (i : Int))
    (q4 : (i : Int) < (n : Int))
    (q5 : decide (n ≤ i) = false)
    (q6 : i < n)
    (hb : b < w.heap.size)
    (hc : w.cell? ⟨b, off + i * 4, none⟩ = some (.int .u8 (kd : Nat)))
    (HI : Hid (∀ w, Calls Try.prog 48 #[.int .u8 2, .int .u8 (kd : Nat)] w fun e w' => e = .returned (.bool false) ∧ w' = w)) :
    Calls Try.prog 29 #[.slice (some ⟨b, off, none⟩) n c, .agg #[.int .u8 2, .int .i64 (i : Nat), .slice KA kn kc, .int .i64 N]] w (ValEnd w (.int .i64 6)) := by
  go_enter Try.func29, Try.ntmps29
  go_wp2
  go_quiet ((go_at_call 48; exact Calls.quiet_of_same (HI.out _)))
  go_wp2
  go_ret
  exact ⟨rfl, below_drewN (below_a1 _ _) _⟩

set_option maxHeartbeats 1600000 in
theorem chk_2_true (w : World) (N : Int) (KA : Option Addr) (n c kn kc : Nat) (b off i kd : Nat)
    (k1 : decide (255 < (kn : Int)) = false)
    (q1 : decide ((i : Int) < 0) = false)
    (q2 : decide ((n : Int) ≤ (i : Int)) = false)
    (q3 : (0 : Int) ≤ (i : Int))
    (q4 : (i : Int) < (n : Int))
    (q5 : decide (n ≤ i) = false)
    (q6 : i < n)
    (hb : b < w.heap.size)
    (hc : w.cell? ⟨b, off + i * 4, none⟩ = some (.int .u8 (kd : Nat)))
    (HI : Hid (∀ w, Calls Try.prog 48 #[.int .u8 2, .int .u8 (kd : Nat)] w fun e w' => e = .returned (.bool true) ∧ w' = w)) :
    Calls Try.prog 29 #[.slice (some ⟨b, off, none⟩) n c, .agg #[.int .u8 2, .int .i64 (i : Nat), .slice KA kn kc, .int .i64 N]] w (ValEnd w (.int .i64 0)) := by
  go_enter Try.func29, Try.ntmps29
  go_wp2
  go_quiet ((go_at_call 48; exact Calls.quiet_of_same (HI.out _)))
  go_wp2
  go_ret
  exact ⟨rfl, below_drewN (below_a1 _ _) _⟩

set_option maxHeartbeats 1600000 in
theorem chk_3_key (w : World) (q N : Int) (A KA : Option Addr) (n c kn kc : Nat)
    (k1 : decide (255 < (kn : Int)) = true) :
    Calls Try.prog 29 #[.slice A n c, .agg #[.int .u8 3, .int .i64 q, .slice KA kn kc, .int .i64 N]] w (ValEnd w (.int .i64 2)) := by
  go_enter Try.func29, Try.ntmps29
  go_wp2
  go_ret
  exact ⟨rfl, below_a1 _ _⟩

set_option maxHeartbeats 1600000 in
theorem chk_3_neg (w : World) (q N : Int) (A KA : Option Addr) (n c kn kc : Nat)
    (k1 : decide (255 < (kn : Int)) = false)
    (q1 : decide (q < 0) = true) :
    Calls Try.prog 29 #[.slice A n c, .agg #[.int .u8 3, .int .i64 q, .slice KA kn kc, .int .i64 N]] w (ValEnd w (.int .i64 6)) := by
  go_enter Try.func29, Try.ntmps29
  go_wp2
  go_quiet (fail)
  go_wp2
  go_ret
  exact ⟨rfl, below_drewN (below_a1 _ _) _⟩

set_option maxHeartbeats 1600000 in
theorem chk_3_big (w : World) (q N : Int) (A KA : Option Addr) (n c kn kc : Nat)
    (k1 : decide (255 < (kn : Int)) = false)
    (q1 : decide (q < 0) = false)
    (q2 : decide ((n : Int) ≤ q) = true) :
    Calls Try.prog 29 #[.slice A n c, .agg #[.int .u8 3, .int .i64 q, .slice KA kn kc, .int .i64 N]] w (ValEnd w (.int .i64 6)) := by
  go_enter Try.func29, Try.ntmps29
  go_wp2
  go_quiet (fail)
  go_wp2
  go_ret
  exact ⟨rfl, below_drewN (below_a1 _ _) _⟩

set_option maxHeartbeats 1600000 in
theorem chk_3_false (w : World) (N : Int) (KA : Option Addr) (n c kn kc : Nat) (b off i kd : Nat)
    (k1 : decide (255 < (kn : Int)) = false)
    (q1 : decide ((i : Int) < 0) = false)
    (q2 : decide ((n : Int) ≤ (i : Int)) = false)
    (q3 : (0 : Int) ≤ (i : Int))
    (q4 : (i : Int) < (n : Int))
    (q5 : decide (n ≤ i) = false)
    (q6 : i < n)
    (hb : b < w.heap.size)
    (hc : w.cell? ⟨b, off + i * 4, none⟩ = some (.int .u8 (kd : Nat)))
    (HI : Hid (∀ w, Calls Try.prog 48 #[.int .u8 3, .int .u8 (kd : Nat)] w fun e w' => e = .returned (.bool false) ∧ w' = w)) :
    Calls Try.prog 29 #[.slice (some ⟨b, off, none⟩) n c, .agg #[.int .u8 3, .int .i64 (i : Nat), .slice KA kn kc, .int .i64 N]] w (ValEnd w (.int .i64 6)) := by
  go_enter Try.func29, Try.ntmps29
  go_wp2
  go_quiet ((go_at_call 48; exact Calls.quiet_of_same (HI.out _)))
  go_wp2
  go_ret
  exact ⟨rfl, below_drewN (below_a1 _ _) _⟩

set_option maxHeartbeats 1600000 in
theorem chk_3_true (w : World) (N : Int) (KA : Option Addr) (n c kn kc : Nat) (b off i kd : Nat)
    (k1 : decide (255 < (kn : Int)) = false)
    (q1 : decide ((i : Int) < 0) = false)
    (q2 : decide ((n : Int) ≤ (i : Int)) = false)
    (q3 : (0 : Int) ≤ (i : Int))
    (q4 : (i : Int) < (n : Int))
    (q5 : decide (n ≤ i) = false)
    (q6 : i < n)
    (hb : b < w.heap.size)
    (hc : w.cell? ⟨b, off + i * 4, none⟩ = some (.int .u8 (kd : Nat)))
    (HI : Hid (∀ w, Calls Try.prog 48 #[.int .u8 3, .int .u8 (kd : Nat)] w fun e w' => e = .returned (.bool true) ∧ w' = w)) :
    Calls Try.prog 29 #[.slice (some ⟨b, off, none⟩) n c, .agg #[.int .u8 3, .int .i64 (i : Nat), .slice KA kn kc, .int .i64 N]] w (ValEnd w (.int .i64 0)) := by
  go_enter Try.func29, Try.ntmps29
  go_wp2
  go_quiet ((go_at_call 48; exact Calls.quiet_of_same (HI.out _)))
  go_wp2
  go_ret
  exact ⟨rfl, below_drewN (below_a1 _ _) _⟩

set_option maxHeartbeats 1600000 in
theorem chk_4_key (w : World) (q N : Int) (A KA : Option Addr) (n c kn kc : Nat)
    (k1 : decide (255 < (kn : Int)) = true) :
    Calls Try.prog 29 #[.slice A n c, .agg #[.int .u8 4, .int .i64 q, .slice KA kn kc, .int .i64 N]] w (ValEnd w (.int .i64 2)) := by
  go_enter Try.func29, Try.ntmps29
  go_wp2
  go_ret
  exact ⟨rfl, below_a1 _ _⟩

set_option maxHeartbeats 1600000 in
theorem chk_4_neg (w : World) (q N : Int) (A KA : Option Addr) (n c kn kc : Nat)
    (k1 : decide (255 < (kn : Int)) = false)
    (q1 : decide (q < 0) = true) :
    Calls Try.prog 29 #[.slice A n c, .agg #[.int .u8 4, .int .i64 q, .slice KA kn kc, .int .i64 N]] w (ValEnd w (.int .i64 6)) := by
  go_enter Try.func29, Try.ntmps29
  go_wp2
  go_quiet (fail)
  go_wp2
  go_ret
  exact ⟨rfl, below_drewN (below_a1 _ _) _⟩

set_option maxHeartbeats 1600000 in
theorem chk_4_big (w : World) (q N : Int) (A KA : Option Addr) (n c kn kc : Nat)
    (k1 : decide (255 < (kn : Int)) = false)
    (q1 : decide (q < 0) = false)
    (q2 : decide ((n : Int) ≤ q) = true) :
    Calls Try.prog 29 #[.slice A n c, .agg #[.int .u8 4, .int .i64 q, .slice KA kn kc, .int .i64 N]] w (ValEnd w (.int .i64 6)) := by
  go_enter Try.func29, Try.ntmps29
  go_wp2
  go_quiet (fail)
  go_wp2
  go_ret
  exact ⟨rfl, below_drewN (below_a1 _ _) _⟩

set_option maxHeartbeats 1600000 in
theorem chk_4_false (w : World) (N : Int) (KA : Option Addr) (n c kn kc : Nat) (b off i kd : Nat)
    (k1 : decide (255 < (kn : Int)) = false)
    (q1 : decide ((i : Int) < 0) = false)
    (q2 : decide ((n : Int) ≤ (i : Int)) = false)
    (q3 : (0 : Int) ≤ (i : Int))
    (q4 : (i : Int) < (n : Int))
    (q5 : decide (n ≤ i) = false)
    (q6 : i < n)
    (hb : b < w.heap.size)
    (hc : w.cell? ⟨b, off + i * 4, none⟩ = some (.int .u8 (kd : Nat)))
    (HI : Hid (∀ w, Calls Try.prog 48 #[.int .u8 4, .int .u8 (kd : Nat)] w fun e w' => e = .returned (.bool false) ∧ w' = w)) :
    Calls Try.prog 29 #[.slice (some ⟨b, off, none⟩) n c, .agg #[.int .u8 4, .int .i64 (i : Nat), .slice KA kn kc, .int .i64 N]] w (ValEnd w (.int .i64 6)) := by
  go_enter Try.func29, Try.ntmps29
  go_wp2
  go_quiet ((go_at_call 48; exact Calls.quiet_of_same (HI.out _)))
  go_wp2
  go_ret
  exact ⟨rfl, below_drewN (below_a1 _ _) _⟩

set_option maxHeartbeats 1600000 in
theorem chk_4_true (w : World) (N : Int) (KA : Option Addr) (n c kn kc : Nat) (b off i kd : Nat)
    (k1 : decide (255 < (kn : Int)) = false)
    (q1 : decide ((i : Int) < 0) = false)
    (q2 : decide ((n : Int) ≤ (i : Int)) = false)
    (q3 : (0 : Int) ≤ (i : Int))
    (q4 : (i : Int) < (n : Int))
    (q5 : decide (n ≤ i) = false)
    (q6 : i < n)
    (hb : b < w.heap.size)
    (hc : w.cell? ⟨b, off + i * 4, none⟩ = some (.int .u8 (kd : Nat)))
    (HI : Hid (∀ w, Calls Try.prog 48 #[.int .u8 4, .int .u8 (kd : Nat)] w fun e w' => e = .returned (.bool true) ∧ w' = w)) :
    Calls Try.prog 29 #[.slice (some ⟨b, off, none⟩) n c, .agg #[.int .u8 4, .int .i64 (i : Nat), .slice KA kn kc, .int .i64 N]] w (ValEnd w (.int .i64 0)) := by
  go_enter Try.func29, Try.ntmps29
  go_wp2
  go_quiet ((go_at_call 48; exact Calls.quiet_of_same (HI.out _)))
  go_wp2
  go_ret
  exact ⟨rfl, below_drewN (below_a1 _ _) _⟩
end Go.Proofs.Ytnkecjjfbllgdaa
