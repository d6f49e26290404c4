/- Contract of package wide: shrink. -/
import Derived.Test.YtafboimlchjnaaaDoorWideB
namespace Go.Proofs.YtafboimlchjnaaaDoor
open Go.RowKit
set_option maxRecDepth 100000

/-- Two numbers of 128 bits are compared word by word. -/
theorem eqlN (c d hi lo : Nat) (w : World) : (binOp .eql 81 (.agg #[.int .u64 (c : Int), .int .u64 (d : Int)]) (.agg #[.int .u64 (hi : Int), .int .u64 (lo : Int)])).run Tryd.prog w = .ok (.bool (decide (c = hi ∧ d = lo))) w := by
  by_cases h : c = hi
  · subst h
    by_cases h' : d = lo
    · subst h'; simp [go_sem, Result.andThen]
    · have : ¬ (d : Int) = (lo : Int) := by omega
      simp [go_sem, Result.andThen, h', this]
  · have : ¬ (c : Int) = (hi : Int) := by omega
    simp [go_sem, Result.andThen, h, this]
theorem neqN (c d hi lo : Nat) (w : World) : (binOp .neq 81 (.agg #[.int .u64 (c : Int), .int .u64 (d : Int)]) (.agg #[.int .u64 (hi : Int), .int .u64 (lo : Int)])).run Tryd.prog w = .ok (.bool (!decide (c = hi ∧ d = lo))) w := by
  by_cases h : c = hi
  · subst h
    by_cases h' : d = lo
    · subst h'; simp [go_sem, Result.andThen]
    · have : ¬ (d : Int) = (lo : Int) := by omega
      simp [go_sem, Result.andThen, h', this]
  · have : ¬ (c : Int) = (hi : Int) := by omega
    simp [go_sem, Result.andThen, h, this]
theorem and1 {a : Nat} (h : a < 18446744073709551616) : Go.bits BinOp.and IntKind.u64 (a : Int) 1 = ((a % 2 : Nat) : Int) := by
  have := bits_and_u64_nat a 1 h (by omega)
  rw [Nat.and_one_is_mod] at this
  exact this

set_option maxHeartbeats 3200000 in
theorem shrink_whole (w : World) (v j how hi lo a b c d : Nat) (hv : v < 340282366920938463463374607431768211456) (hk : j < 4096)
    (hT : Two v hi lo) (hW : Two (v / 2 ^ (j + 1)) a b) (hS : Two (shl2 (v / 2 ^ (j + 1)) (j + 1)) c d) (hq : decide (c = hi ∧ d = lo) = true) :
    Calls Tryd.prog 82 #[.agg #[.int .u64 (hi : Int), .int .u64 (lo : Int)], .int .u64 ((j : Int) + 1), .int .i64 (how : Int)] w (R2 w a b) := by
  have hl : v / 2 ^ (j + 1) < 340282366920938463463374607431768211456 := Nat.lt_of_le_of_lt (Nat.div_le_self _ _) hv
  have EQ1 := eqlN c d hi lo
  rw [hq] at EQ1
  have hj : (0 : Int) ≤ (j : Int) := by omega
  have hj' : (j : Int) < 4096 := by omega
  have hwr : IntKind.u64.wrap ((j : Int)) = (j : Int) := u64_in (by omega) (by omega)
  have HR := Lib.hid (fun w => right_at w v hi lo (j + 1) a b hv (by omega) hT hW)
  have HL := Lib.hid (fun w => left_at w (v / 2 ^ (j + 1)) a b (j + 1) c d hl (by omega) hW hS)
  rw [show ((j + 1 : Nat) : Int) = (j : Int) + 1 from rfl] at HR HL
  clear hq hT hW hS hl hv
  go_enter Tryd.func82, Tryd.ntmps82
  go_wp2_with fail
  refine (HR.out _).mono ?_
  rintro e w1 ⟨rfl, hb1⟩
  have hz1 : w.heap.size + 2 ≤ w1.heap.size := by have := hb1.size; simpa using this
  have N1 : Blk w1 w.heap.size (.int .u64 (hi : Int)) (.int .u64 (lo : Int)) := ((Blk.new w _ _ 81).alloc _).below hb1
  have R1 : Blk w1 (w.heap.size + 1) (.int .u64 0) (.int .u64 0) := (by simpa using Blk.new (w.alloc (.cells #[.int .u64 (hi : Int), .int .u64 (lo : Int)] 81)) (.int .u64 0) (.int .u64 0) 81 : Blk _ (w.heap.size + 1) _ _).below hb1
  have HB1 := Lib.hid (((Below.refl w.heap.size w).alloc (Nat.le_refl _) _).alloc (by simp) _ |>.trans (hb1.mono (by simp; omega)))
  obtain ⟨_, n0, n1, _, _⟩ := id N1
  have HN1 := Lib.hid N1
  have HR1 := Lib.hid R1
  clear hb1 N1 R1
  go_wp2_with fail
  go_region_held3 (fun w' => w'.cell? ⟨w.heap.size, 0, none⟩ = some (.int .u64 (hi : Int)) ∧ w'.cell? ⟨w.heap.size, 1, none⟩ = some (.int .u64 (lo : Int)) ∧ w'.cell? ⟨w1.heap.size, 0, none⟩ = some (.int .u64 (a : Int)) ∧ w'.cell? ⟨w1.heap.size, 1, none⟩ = some (.int .u64 (b : Int)))
    (go_keep)
    (first
      | ((with_reducible refine (HL.out _).mono ?_); rintro e w2 ⟨rfl, hb2⟩; have hz2 : w1.heap.size + 1 ≤ w2.heap.size := (by have := hb2.size; simpa using this); have HN2 := Lib.hid (((HN1.out.alloc _).drew).below hb2); have HR2 := Lib.hid (((HR1.out.alloc _).drew).below hb2); have HW2 := Lib.hid (((Blk.new w1 (.int .u64 (a : Int)) (.int .u64 (b : Int)) 81).drew).below hb2); have HB2 := Lib.hid (HB1.out.trans ((((Below.refl w1.heap.size w1).alloc (Nat.le_refl _) _).drew.trans (hb2.mono (by simp))).mono (by omega))); obtain ⟨_, m0, m1, _, _⟩ := id HN2.out; obtain ⟨_, m2, m3, _, _⟩ := id HW2.out; clear hb2))
  obtain ⟨_, p0, p1, p2, p3⟩ := id HR2.out
  obtain ⟨u0, u1⟩ := HR2.out.put (.int .u64 (a : Int)) (.int .u64 (b : Int))
  go_wp2
  exact bodyPost_ret (v := .agg #[.int .u64 (a : Int), .int .u64 (b : Int)]) (by simp [results, Tryd.results82, go_sem, u0, u1]) rfl ⟨rfl, (HB2.out.setCell (by simp) _).setCell (by simp) _⟩

set_option maxHeartbeats 3200000 in
theorem shrink_f0 (w : World) (v j how hi lo a b c d e f : Nat) (hv : v < 340282366920938463463374607431768211456) (hk : j < 4096)
    (hT : Two v hi lo) (hW : Two (v / 2 ^ (j + 1)) a b) (hS : Two (shl2 (v / 2 ^ (j + 1)) (j + 1)) c d) (hq : decide (c = hi ∧ d = lo) = false)
    (hQ : Two (v / 2 ^ j) e f) (qf : (Go.bits BinOp.and IntKind.u64 (f : Int) 1 == 1) = false) (h0 : ((how : Int) == 1) = false) (h2 : ((how : Int) == 2) = false) :
    Calls Tryd.prog 82 #[.agg #[.int .u64 (hi : Int), .int .u64 (lo : Int)], .int .u64 ((j : Int) + 1), .int .i64 (how : Int)] w (R2 w a b) := by
  have hl : v / 2 ^ (j + 1) < 340282366920938463463374607431768211456 := Nat.lt_of_le_of_lt (Nat.div_le_self _ _) hv
  have EQ1 := eqlN c d hi lo
  rw [hq] at EQ1
  have hj : (0 : Int) ≤ (j : Int) := by omega
  have hj' : (j : Int) < 4096 := by omega
  have hwr : IntKind.u64.wrap ((j : Int)) = (j : Int) := u64_in (by omega) (by omega)
  have HR := Lib.hid (fun w => right_at w v hi lo (j + 1) a b hv (by omega) hT hW)
  have HL := Lib.hid (fun w => left_at w (v / 2 ^ (j + 1)) a b (j + 1) c d hl (by omega) hW hS)
  rw [show ((j + 1 : Nat) : Int) = (j : Int) + 1 from rfl] at HR HL
  have HQ := Lib.hid (fun w => right_at w v hi lo j e f hv (by omega) hT hQ)
  clear hq hT hW hS hQ hl hv
  go_enter Tryd.func82, Tryd.ntmps82
  go_wp2_with fail
  refine (HR.out _).mono ?_
  rintro e w1 ⟨rfl, hb1⟩
  have hz1 : w.heap.size + 2 ≤ w1.heap.size := by have := hb1.size; simpa using this
  have N1 : Blk w1 w.heap.size (.int .u64 (hi : Int)) (.int .u64 (lo : Int)) := ((Blk.new w _ _ 81).alloc _).below hb1
  have R1 : Blk w1 (w.heap.size + 1) (.int .u64 0) (.int .u64 0) := (by simpa using Blk.new (w.alloc (.cells #[.int .u64 (hi : Int), .int .u64 (lo : Int)] 81)) (.int .u64 0) (.int .u64 0) 81 : Blk _ (w.heap.size + 1) _ _).below hb1
  have HB1 := Lib.hid (((Below.refl w.heap.size w).alloc (Nat.le_refl _) _).alloc (by simp) _ |>.trans (hb1.mono (by simp; omega)))
  obtain ⟨_, n0, n1, _, _⟩ := id N1
  have HN1 := Lib.hid N1
  have HR1 := Lib.hid R1
  clear hb1 N1 R1
  go_wp2_with fail
  go_region_held3 (fun w' => w'.cell? ⟨w.heap.size, 0, none⟩ = some (.int .u64 (hi : Int)) ∧ w'.cell? ⟨w.heap.size, 1, none⟩ = some (.int .u64 (lo : Int)) ∧ w'.cell? ⟨w1.heap.size, 0, none⟩ = some (.int .u64 (a : Int)) ∧ w'.cell? ⟨w1.heap.size, 1, none⟩ = some (.int .u64 (b : Int)))
    (go_keep)
    (first
      | ((with_reducible refine (HL.out _).mono ?_); rintro e w2 ⟨rfl, hb2⟩; have hz2 : w1.heap.size + 1 ≤ w2.heap.size := (by have := hb2.size; simpa using this); have HN2 := Lib.hid (((HN1.out.alloc _).drew).below hb2); have HR2 := Lib.hid (((HR1.out.alloc _).drew).below hb2); have HW2 := Lib.hid (((Blk.new w1 (.int .u64 (a : Int)) (.int .u64 (b : Int)) 81).drew).below hb2); have HB2 := Lib.hid (HB1.out.trans ((((Below.refl w1.heap.size w1).alloc (Nat.le_refl _) _).drew.trans (hb2.mono (by simp))).mono (by omega))); obtain ⟨_, m0, m1, _, _⟩ := id HN2.out; obtain ⟨_, m2, m3, _, _⟩ := id HW2.out; clear hb2))
  go_wp2_with fail
  refine (HQ.out _).mono ?_
  rintro e w3 ⟨rfl, hb3⟩
  have hz3 := hb3.size
  have HN3 := Lib.hid (HN2.out.below hb3)
  have HR3 := Lib.hid (HR2.out.below hb3)
  have HW3 := Lib.hid (HW2.out.below hb3)
  have HB3 := Lib.hid (HB2.out.trans (hb3.mono (by omega)))
  obtain ⟨_, k0, k1, _, _⟩ := id HN3.out
  obtain ⟨_, k2, k3, _, _⟩ := id HW3.out
  clear n0 n1 m0 m1 m2 m3 hb3 EQ1
  go_wp2_with fail
  go_quiet (fail)
  have HR4 := Lib.hid ((HR3.out.alloc (.cells #[.int .u64 (e : Int), .int .u64 (f : Int)] 81)).drewN nq)
  have HB4 := Lib.hid (below_drewN (HB3.out.alloc HB3.out.size (.cells #[.int .u64 (e : Int), .int .u64 (f : Int)] 81)) nq)
  obtain ⟨_, p0, p1, p2, p3⟩ := id HR4.out
  obtain ⟨u0, u1⟩ := HR4.out.put (.int .u64 (a : Int)) (.int .u64 (b : Int))
  go_wp2
  exact bodyPost_ret (v := .agg #[.int .u64 (a : Int), .int .u64 (b : Int)]) (by simp [results, Tryd.results82, go_sem, u0, u1]) rfl ⟨rfl, (HB4.out.setCell (by simp) _).setCell (by simp) _⟩

set_option maxHeartbeats 3200000 in
theorem shrink_f1 (w : World) (v j how hi lo a b c d e f r s : Nat) (hv : v < 340282366920938463463374607431768211456) (hk : j < 4096)
    (hT : Two v hi lo) (hW : Two (v / 2 ^ (j + 1)) a b) (hS : Two (shl2 (v / 2 ^ (j + 1)) (j + 1)) c d) (hq : decide (c = hi ∧ d = lo) = false)
    (hQ : Two (v / 2 ^ j) e f) (qf : (Go.bits BinOp.and IntKind.u64 (f : Int) 1 == 1) = false) (h0 : ((how : Int) == 1) = true) (hN : Two (v / 2 ^ (j + 1) + 1) r s) :
    Calls Tryd.prog 82 #[.agg #[.int .u64 (hi : Int), .int .u64 (lo : Int)], .int .u64 ((j : Int) + 1), .int .i64 (how : Int)] w (R2 w r s) := by
  have hl : v / 2 ^ (j + 1) < 340282366920938463463374607431768211456 := Nat.lt_of_le_of_lt (Nat.div_le_self _ _) hv
  have EQ1 := eqlN c d hi lo
  rw [hq] at EQ1
  have hj : (0 : Int) ≤ (j : Int) := by omega
  have hj' : (j : Int) < 4096 := by omega
  have hwr : IntKind.u64.wrap ((j : Int)) = (j : Int) := u64_in (by omega) (by omega)
  have HR := Lib.hid (fun w => right_at w v hi lo (j + 1) a b hv (by omega) hT hW)
  have HL := Lib.hid (fun w => left_at w (v / 2 ^ (j + 1)) a b (j + 1) c d hl (by omega) hW hS)
  rw [show ((j + 1 : Nat) : Int) = (j : Int) + 1 from rfl] at HR HL
  have HQ := Lib.hid (fun w => right_at w v hi lo j e f hv (by omega) hT hQ)
  have hl3 : v / 2 ^ (j + 1) < 340282366920938463463374607431768211455 := by
    have h1 : v / 2 ^ (j + 1) ≤ v / 2 := by rw [Nat.pow_succ, Nat.mul_comm, ← Nat.div_div_eq_div_mul]; exact Nat.div_le_self _ _
    omega
  have HX := Lib.hid (fun w => next_at w (v / 2 ^ (j + 1)) a b r s hl3 hW hN)
  clear hq hT hW hS hQ hl hv hl3 hN
  go_enter Tryd.func82, Tryd.ntmps82
  go_wp2_with fail
  refine (HR.out _).mono ?_
  rintro e w1 ⟨rfl, hb1⟩
  have hz1 : w.heap.size + 2 ≤ w1.heap.size := by have := hb1.size; simpa using this
  have N1 : Blk w1 w.heap.size (.int .u64 (hi : Int)) (.int .u64 (lo : Int)) := ((Blk.new w _ _ 81).alloc _).below hb1
  have R1 : Blk w1 (w.heap.size + 1) (.int .u64 0) (.int .u64 0) := (by simpa using Blk.new (w.alloc (.cells #[.int .u64 (hi : Int), .int .u64 (lo : Int)] 81)) (.int .u64 0) (.int .u64 0) 81 : Blk _ (w.heap.size + 1) _ _).below hb1
  have HB1 := Lib.hid (((Below.refl w.heap.size w).alloc (Nat.le_refl _) _).alloc (by simp) _ |>.trans (hb1.mono (by simp; omega)))
  obtain ⟨_, n0, n1, _, _⟩ := id N1
  have HN1 := Lib.hid N1
  have HR1 := Lib.hid R1
  clear hb1 N1 R1
  go_wp2_with fail
  go_region_held3 (fun w' => w'.cell? ⟨w.heap.size, 0, none⟩ = some (.int .u64 (hi : Int)) ∧ w'.cell? ⟨w.heap.size, 1, none⟩ = some (.int .u64 (lo : Int)) ∧ w'.cell? ⟨w1.heap.size, 0, none⟩ = some (.int .u64 (a : Int)) ∧ w'.cell? ⟨w1.heap.size, 1, none⟩ = some (.int .u64 (b : Int)))
    (go_keep)
    (first
      | ((with_reducible refine (HL.out _).mono ?_); rintro e w2 ⟨rfl, hb2⟩; have hz2 : w1.heap.size + 1 ≤ w2.heap.size := (by have := hb2.size; simpa using this); have HN2 := Lib.hid (((HN1.out.alloc _).drew).below hb2); have HR2 := Lib.hid (((HR1.out.alloc _).drew).below hb2); have HW2 := Lib.hid (((Blk.new w1 (.int .u64 (a : Int)) (.int .u64 (b : Int)) 81).drew).below hb2); have HB2 := Lib.hid (HB1.out.trans ((((Below.refl w1.heap.size w1).alloc (Nat.le_refl _) _).drew.trans (hb2.mono (by simp))).mono (by omega))); obtain ⟨_, m0, m1, _, _⟩ := id HN2.out; obtain ⟨_, m2, m3, _, _⟩ := id HW2.out; clear hb2))
  go_wp2_with fail
  refine (HQ.out _).mono ?_
  rintro e w3 ⟨rfl, hb3⟩
  have hz3 := hb3.size
  have HN3 := Lib.hid (HN2.out.below hb3)
  have HR3 := Lib.hid (HR2.out.below hb3)
  have HW3 := Lib.hid (HW2.out.below hb3)
  have HB3 := Lib.hid (HB2.out.trans (hb3.mono (by omega)))
  obtain ⟨_, k0, k1, _, _⟩ := id HN3.out
  obtain ⟨_, k2, k3, _, _⟩ := id HW3.out
  clear n0 n1 m0 m1 m2 m3 hb3 EQ1
  go_wp2_with fail
  go_quiet (fail)
  have HR4 := Lib.hid ((HR3.out.alloc (.cells #[.int .u64 (e : Int), .int .u64 (f : Int)] 81)).drewN nq)
  have HB4 := Lib.hid (below_drewN (HB3.out.alloc HB3.out.size (.cells #[.int .u64 (e : Int), .int .u64 (f : Int)] 81)) nq)
  obtain ⟨_, p0, p1, p2, p3⟩ := id HR4.out
  go_wp2_with fail
  refine (HX.out _).mono ?_
  rintro e w5 ⟨rfl, hb5⟩
  have HR5 := Lib.hid (HR4.out.below hb5)
  have HB5 := Lib.hid (HB4.out.trans (hb5.mono (by have := HB4.out.size; omega)))
  clear hb5
  obtain ⟨_, p0, p1, p2, p3⟩ := id HR5.out
  obtain ⟨u0, u1⟩ := HR5.out.put (.int .u64 (r : Int)) (.int .u64 (s : Int))
  go_wp2
  exact bodyPost_ret (v := .agg #[.int .u64 (r : Int), .int .u64 (s : Int)]) (by simp [results, Tryd.results82, go_sem, u0, u1]) rfl ⟨rfl, (HB5.out.setCell (by simp) _).setCell (by simp) _⟩

set_option maxHeartbeats 3200000 in
theorem shrink_f2 (w : World) (v j how hi lo a b c d e f : Nat) (hv : v < 340282366920938463463374607431768211456) (hk : j < 4096)
    (hT : Two v hi lo) (hW : Two (v / 2 ^ (j + 1)) a b) (hS : Two (shl2 (v / 2 ^ (j + 1)) (j + 1)) c d) (hq : decide (c = hi ∧ d = lo) = false)
    (hQ : Two (v / 2 ^ j) e f) (qf : (Go.bits BinOp.and IntKind.u64 (f : Int) 1 == 1) = false) (h0 : ((how : Int) == 1) = false) (h2 : ((how : Int) == 2) = true) :
    Calls Tryd.prog 82 #[.agg #[.int .u64 (hi : Int), .int .u64 (lo : Int)], .int .u64 ((j : Int) + 1), .int .i64 (how : Int)] w (R2 w a b) := by
  have hl : v / 2 ^ (j + 1) < 340282366920938463463374607431768211456 := Nat.lt_of_le_of_lt (Nat.div_le_self _ _) hv
  have EQ1 := eqlN c d hi lo
  rw [hq] at EQ1
  have hj : (0 : Int) ≤ (j : Int) := by omega
  have hj' : (j : Int) < 4096 := by omega
  have hwr : IntKind.u64.wrap ((j : Int)) = (j : Int) := u64_in (by omega) (by omega)
  have HR := Lib.hid (fun w => right_at w v hi lo (j + 1) a b hv (by omega) hT hW)
  have HL := Lib.hid (fun w => left_at w (v / 2 ^ (j + 1)) a b (j + 1) c d hl (by omega) hW hS)
  rw [show ((j + 1 : Nat) : Int) = (j : Int) + 1 from rfl] at HR HL
  have HQ := Lib.hid (fun w => right_at w v hi lo j e f hv (by omega) hT hQ)
  clear hq hT hW hS hQ hl hv
  go_enter Tryd.func82, Tryd.ntmps82
  go_wp2_with fail
  refine (HR.out _).mono ?_
  rintro e w1 ⟨rfl, hb1⟩
  have hz1 : w.heap.size + 2 ≤ w1.heap.size := by have := hb1.size; simpa using this
  have N1 : Blk w1 w.heap.size (.int .u64 (hi : Int)) (.int .u64 (lo : Int)) := ((Blk.new w _ _ 81).alloc _).below hb1
  have R1 : Blk w1 (w.heap.size + 1) (.int .u64 0) (.int .u64 0) := (by simpa using Blk.new (w.alloc (.cells #[.int .u64 (hi : Int), .int .u64 (lo : Int)] 81)) (.int .u64 0) (.int .u64 0) 81 : Blk _ (w.heap.size + 1) _ _).below hb1
  have HB1 := Lib.hid (((Below.refl w.heap.size w).alloc (Nat.le_refl _) _).alloc (by simp) _ |>.trans (hb1.mono (by simp; omega)))
  obtain ⟨_, n0, n1, _, _⟩ := id N1
  have HN1 := Lib.hid N1
  have HR1 := Lib.hid R1
  clear hb1 N1 R1
  go_wp2_with fail
  go_region_held3 (fun w' => w'.cell? ⟨w.heap.size, 0, none⟩ = some (.int .u64 (hi : Int)) ∧ w'.cell? ⟨w.heap.size, 1, none⟩ = some (.int .u64 (lo : Int)) ∧ w'.cell? ⟨w1.heap.size, 0, none⟩ = some (.int .u64 (a : Int)) ∧ w'.cell? ⟨w1.heap.size, 1, none⟩ = some (.int .u64 (b : Int)))
    (go_keep)
    (first
      | ((with_reducible refine (HL.out _).mono ?_); rintro e w2 ⟨rfl, hb2⟩; have hz2 : w1.heap.size + 1 ≤ w2.heap.size := (by have := hb2.size; simpa using this); have HN2 := Lib.hid (((HN1.out.alloc _).drew).below hb2); have HR2 := Lib.hid (((HR1.out.alloc _).drew).below hb2); have HW2 := Lib.hid (((Blk.new w1 (.int .u64 (a : Int)) (.int .u64 (b : Int)) 81).drew).below hb2); have HB2 := Lib.hid (HB1.out.trans ((((Below.refl w1.heap.size w1).alloc (Nat.le_refl _) _).drew.trans (hb2.mono (by simp))).mono (by omega))); obtain ⟨_, m0, m1, _, _⟩ := id HN2.out; obtain ⟨_, m2, m3, _, _⟩ := id HW2.out; clear hb2))
  go_wp2_with fail
  refine (HQ.out _).mono ?_
  rintro e w3 ⟨rfl, hb3⟩
  have hz3 := hb3.size
  have HN3 := Lib.hid (HN2.out.below hb3)
  have HR3 := Lib.hid (HR2.out.below hb3)
  have HW3 := Lib.hid (HW2.out.below hb3)
  have HB3 := Lib.hid (HB2.out.trans (hb3.mono (by omega)))
  obtain ⟨_, k0, k1, _, _⟩ := id HN3.out
  obtain ⟨_, k2, k3, _, _⟩ := id HW3.out
  clear n0 n1 m0 m1 m2 m3 hb3 EQ1
  go_wp2_with fail
  go_quiet (fail)
  have HR4 := Lib.hid ((HR3.out.alloc (.cells #[.int .u64 (e : Int), .int .u64 (f : Int)] 81)).drewN nq)
  have HB4 := Lib.hid (below_drewN (HB3.out.alloc HB3.out.size (.cells #[.int .u64 (e : Int), .int .u64 (f : Int)] 81)) nq)
  obtain ⟨_, p0, p1, p2, p3⟩ := id HR4.out
  obtain ⟨u0, u1⟩ := HR4.out.put (.int .u64 (a : Int)) (.int .u64 (b : Int))
  go_wp2
  exact bodyPost_ret (v := .agg #[.int .u64 (a : Int), .int .u64 (b : Int)]) (by simp [results, Tryd.results82, go_sem, u0, u1]) rfl ⟨rfl, (HB4.out.setCell (by simp) _).setCell (by simp) _⟩

set_option maxHeartbeats 3200000 in
theorem shrink_t0 (w : World) (v j how hi lo a b c d e f g h : Nat) (hv : v < 340282366920938463463374607431768211456) (hk : j < 4096)
    (hT : Two v hi lo) (hW : Two (v / 2 ^ (j + 1)) a b) (hS : Two (shl2 (v / 2 ^ (j + 1)) (j + 1)) c d) (hq : decide (c = hi ∧ d = lo) = false)
    (hQ : Two (v / 2 ^ j) e f) (qf : (Go.bits BinOp.and IntKind.u64 (f : Int) 1 == 1) = true) (hM : Two (shl2 (v / 2 ^ j) j) g h) (ht : decide (g = hi ∧ h = lo) = true) (h0 : ((how : Int) == 1) = false) (h2 : ((how : Int) == 2) = false) :
    Calls Tryd.prog 82 #[.agg #[.int .u64 (hi : Int), .int .u64 (lo : Int)], .int .u64 ((j : Int) + 1), .int .i64 (how : Int)] w (R2 w a b) := by
  have hl : v / 2 ^ (j + 1) < 340282366920938463463374607431768211456 := Nat.lt_of_le_of_lt (Nat.div_le_self _ _) hv
  have EQ1 := eqlN c d hi lo
  rw [hq] at EQ1
  have hj : (0 : Int) ≤ (j : Int) := by omega
  have hj' : (j : Int) < 4096 := by omega
  have hwr : IntKind.u64.wrap ((j : Int)) = (j : Int) := u64_in (by omega) (by omega)
  have HR := Lib.hid (fun w => right_at w v hi lo (j + 1) a b hv (by omega) hT hW)
  have HL := Lib.hid (fun w => left_at w (v / 2 ^ (j + 1)) a b (j + 1) c d hl (by omega) hW hS)
  rw [show ((j + 1 : Nat) : Int) = (j : Int) + 1 from rfl] at HR HL
  have HQ := Lib.hid (fun w => right_at w v hi lo j e f hv (by omega) hT hQ)
  have hl2 : v / 2 ^ j < 340282366920938463463374607431768211456 := Nat.lt_of_le_of_lt (Nat.div_le_self _ _) hv
  have HM := Lib.hid (fun w => left_at w (v / 2 ^ j) e f j g h hl2 (by omega) hQ hM)
  have EQ2 := Lib.hid (eqlN g h hi lo)
  rw [ht] at EQ2
  clear hq hT hW hS hQ hl hv hl2 hM ht
  go_enter Tryd.func82, Tryd.ntmps82
  go_wp2_with fail
  refine (HR.out _).mono ?_
  rintro e w1 ⟨rfl, hb1⟩
  have hz1 : w.heap.size + 2 ≤ w1.heap.size := by have := hb1.size; simpa using this
  have N1 : Blk w1 w.heap.size (.int .u64 (hi : Int)) (.int .u64 (lo : Int)) := ((Blk.new w _ _ 81).alloc _).below hb1
  have R1 : Blk w1 (w.heap.size + 1) (.int .u64 0) (.int .u64 0) := (by simpa using Blk.new (w.alloc (.cells #[.int .u64 (hi : Int), .int .u64 (lo : Int)] 81)) (.int .u64 0) (.int .u64 0) 81 : Blk _ (w.heap.size + 1) _ _).below hb1
  have HB1 := Lib.hid (((Below.refl w.heap.size w).alloc (Nat.le_refl _) _).alloc (by simp) _ |>.trans (hb1.mono (by simp; omega)))
  obtain ⟨_, n0, n1, _, _⟩ := id N1
  have HN1 := Lib.hid N1
  have HR1 := Lib.hid R1
  clear hb1 N1 R1
  go_wp2_with fail
  go_region_held3 (fun w' => w'.cell? ⟨w.heap.size, 0, none⟩ = some (.int .u64 (hi : Int)) ∧ w'.cell? ⟨w.heap.size, 1, none⟩ = some (.int .u64 (lo : Int)) ∧ w'.cell? ⟨w1.heap.size, 0, none⟩ = some (.int .u64 (a : Int)) ∧ w'.cell? ⟨w1.heap.size, 1, none⟩ = some (.int .u64 (b : Int)))
    (go_keep)
    (first
      | ((with_reducible refine (HL.out _).mono ?_); rintro e w2 ⟨rfl, hb2⟩; have hz2 : w1.heap.size + 1 ≤ w2.heap.size := (by have := hb2.size; simpa using this); have HN2 := Lib.hid (((HN1.out.alloc _).drew).below hb2); have HR2 := Lib.hid (((HR1.out.alloc _).drew).below hb2); have HW2 := Lib.hid (((Blk.new w1 (.int .u64 (a : Int)) (.int .u64 (b : Int)) 81).drew).below hb2); have HB2 := Lib.hid (HB1.out.trans ((((Below.refl w1.heap.size w1).alloc (Nat.le_refl _) _).drew.trans (hb2.mono (by simp))).mono (by omega))); obtain ⟨_, m0, m1, _, _⟩ := id HN2.out; obtain ⟨_, m2, m3, _, _⟩ := id HW2.out; clear hb2))
  go_wp2_with fail
  refine (HQ.out _).mono ?_
  rintro e w3 ⟨rfl, hb3⟩
  have hz3 := hb3.size
  have HN3 := Lib.hid (HN2.out.below hb3)
  have HR3 := Lib.hid (HR2.out.below hb3)
  have HW3 := Lib.hid (HW2.out.below hb3)
  have HB3 := Lib.hid (HB2.out.trans (hb3.mono (by omega)))
  obtain ⟨_, k0, k1, _, _⟩ := id HN3.out
  obtain ⟨_, k2, k3, _, _⟩ := id HW3.out
  clear n0 n1 m0 m1 m2 m3 hb3 EQ1
  go_wp2_with fail
  have EQ3 := EQ2.out
  go_region_held3 (fun w' => w'.cell? ⟨w.heap.size, 0, none⟩ = some (.int .u64 (hi : Int)) ∧ w'.cell? ⟨w.heap.size, 1, none⟩ = some (.int .u64 (lo : Int)) ∧ w'.cell? ⟨w3.heap.size, 0, none⟩ = some (.int .u64 (e : Int)) ∧ w'.cell? ⟨w3.heap.size, 1, none⟩ = some (.int .u64 (f : Int)))
    (go_keep)
    (first
      | ((with_reducible refine (HM.out _).mono ?_); rintro e w4 ⟨rfl, hb4⟩; have hz4 : w3.heap.size + 1 ≤ w4.heap.size := (by have := hb4.size; simpa using this); have HN4 := Lib.hid (((HN3.out.alloc _).drew).below hb4); have HR4 := Lib.hid (((HR3.out.alloc _).drew).below hb4); have HW4 := Lib.hid (((HW3.out.alloc _).drew).below hb4); have HL4 := Lib.hid (((Blk.new w3 (.int .u64 (e : Int)) (.int .u64 (f : Int)) 81).drew).below hb4); have HB4 := Lib.hid (HB3.out.trans ((((Below.refl w3.heap.size w3).alloc (Nat.le_refl _) _).drew.trans (hb4.mono (by simp))).mono (by omega))); obtain ⟨_, s0, s1, _, _⟩ := id HN4.out; obtain ⟨_, s2, s3, _, _⟩ := id HW4.out; obtain ⟨_, s4, s5, _, _⟩ := id HL4.out; clear hb4))
  obtain ⟨_, p0, p1, p2, p3⟩ := id HR4.out
  obtain ⟨u0, u1⟩ := HR4.out.put (.int .u64 (a : Int)) (.int .u64 (b : Int))
  go_wp2
  exact bodyPost_ret (v := .agg #[.int .u64 (a : Int), .int .u64 (b : Int)]) (by simp [results, Tryd.results82, go_sem, u0, u1]) rfl ⟨rfl, (HB4.out.setCell (by simp) _).setCell (by simp) _⟩

set_option maxHeartbeats 3200000 in
theorem shrink_t1 (w : World) (v j how hi lo a b c d e f g h r s : Nat) (hv : v < 340282366920938463463374607431768211456) (hk : j < 4096)
    (hT : Two v hi lo) (hW : Two (v / 2 ^ (j + 1)) a b) (hS : Two (shl2 (v / 2 ^ (j + 1)) (j + 1)) c d) (hq : decide (c = hi ∧ d = lo) = false)
    (hQ : Two (v / 2 ^ j) e f) (qf : (Go.bits BinOp.and IntKind.u64 (f : Int) 1 == 1) = true) (hM : Two (shl2 (v / 2 ^ j) j) g h) (ht : decide (g = hi ∧ h = lo) = true) (h0 : ((how : Int) == 1) = true) (hN : Two (v / 2 ^ (j + 1) + 1) r s) :
    Calls Tryd.prog 82 #[.agg #[.int .u64 (hi : Int), .int .u64 (lo : Int)], .int .u64 ((j : Int) + 1), .int .i64 (how : Int)] w (R2 w r s) := by
  have hl : v / 2 ^ (j + 1) < 340282366920938463463374607431768211456 := Nat.lt_of_le_of_lt (Nat.div_le_self _ _) hv
  have EQ1 := eqlN c d hi lo
  rw [hq] at EQ1
  have hj : (0 : Int) ≤ (j : Int) := by omega
  have hj' : (j : Int) < 4096 := by omega
  have hwr : IntKind.u64.wrap ((j : Int)) = (j : Int) := u64_in (by omega) (by omega)
  have HR := Lib.hid (fun w => right_at w v hi lo (j + 1) a b hv (by omega) hT hW)
  have HL := Lib.hid (fun w => left_at w (v / 2 ^ (j + 1)) a b (j + 1) c d hl (by omega) hW hS)
  rw [show ((j + 1 : Nat) : Int) = (j : Int) + 1 from rfl] at HR HL
  have HQ := Lib.hid (fun w => right_at w v hi lo j e f hv (by omega) hT hQ)
  have hl2 : v / 2 ^ j < 340282366920938463463374607431768211456 := Nat.lt_of_le_of_lt (Nat.div_le_self _ _) hv
  have HM := Lib.hid (fun w => left_at w (v / 2 ^ j) e f j g h hl2 (by omega) hQ hM)
  have EQ2 := Lib.hid (eqlN g h hi lo)
  rw [ht] at EQ2
  have hl3 : v / 2 ^ (j + 1) < 340282366920938463463374607431768211455 := by
    have h1 : v / 2 ^ (j + 1) ≤ v / 2 := by rw [Nat.pow_succ, Nat.mul_comm, ← Nat.div_div_eq_div_mul]; exact Nat.div_le_self _ _
    omega
  have HX := Lib.hid (fun w => next_at w (v / 2 ^ (j + 1)) a b r s hl3 hW hN)
  clear hq hT hW hS hQ hl hv hl2 hM ht hl3 hN
  go_enter Tryd.func82, Tryd.ntmps82
  go_wp2_with fail
  refine (HR.out _).mono ?_
  rintro e w1 ⟨rfl, hb1⟩
  have hz1 : w.heap.size + 2 ≤ w1.heap.size := by have := hb1.size; simpa using this
  have N1 : Blk w1 w.heap.size (.int .u64 (hi : Int)) (.int .u64 (lo : Int)) := ((Blk.new w _ _ 81).alloc _).below hb1
  have R1 : Blk w1 (w.heap.size + 1) (.int .u64 0) (.int .u64 0) := (by simpa using Blk.new (w.alloc (.cells #[.int .u64 (hi : Int), .int .u64 (lo : Int)] 81)) (.int .u64 0) (.int .u64 0) 81 : Blk _ (w.heap.size + 1) _ _).below hb1
  have HB1 := Lib.hid (((Below.refl w.heap.size w).alloc (Nat.le_refl _) _).alloc (by simp) _ |>.trans (hb1.mono (by simp; omega)))
  obtain ⟨_, n0, n1, _, _⟩ := id N1
  have HN1 := Lib.hid N1
  have HR1 := Lib.hid R1
  clear hb1 N1 R1
  go_wp2_with fail
  go_region_held3 (fun w' => w'.cell? ⟨w.heap.size, 0, none⟩ = some (.int .u64 (hi : Int)) ∧ w'.cell? ⟨w.heap.size, 1, none⟩ = some (.int .u64 (lo : Int)) ∧ w'.cell? ⟨w1.heap.size, 0, none⟩ = some (.int .u64 (a : Int)) ∧ w'.cell? ⟨w1.heap.size, 1, none⟩ = some (.int .u64 (b : Int)))
    (go_keep)
    (first
      | ((with_reducible refine (HL.out _).mono ?_); rintro e w2 ⟨rfl, hb2⟩; have hz2 : w1.heap.size + 1 ≤ w2.heap.size := (by have := hb2.size; simpa using this); have HN2 := Lib.hid (((HN1.out.alloc _).drew).below hb2); have HR2 := Lib.hid (((HR1.out.alloc _).drew).below hb2); have HW2 := Lib.hid (((Blk.new w1 (.int .u64 (a : Int)) (.int .u64 (b : Int)) 81).drew).below hb2); have HB2 := Lib.hid (HB1.out.trans ((((Below.refl w1.heap.size w1).alloc (Nat.le_refl _) _).drew.trans (hb2.mono (by simp))).mono (by omega))); obtain ⟨_, m0, m1, _, _⟩ := id HN2.out; obtain ⟨_, m2, m3, _, _⟩ := id HW2.out; clear hb2))
  go_wp2_with fail
  refine (HQ.out _).mono ?_
  rintro e w3 ⟨rfl, hb3⟩
  have hz3 := hb3.size
  have HN3 := Lib.hid (HN2.out.below hb3)
  have HR3 := Lib.hid (HR2.out.below hb3)
  have HW3 := Lib.hid (HW2.out.below hb3)
  have HB3 := Lib.hid (HB2.out.trans (hb3.mono (by omega)))
  obtain ⟨_, k0, k1, _, _⟩ := id HN3.out
  obtain ⟨_, k2, k3, _, _⟩ := id HW3.out
  clear n0 n1 m0 m1 m2 m3 hb3 EQ1
  go_wp2_with fail
  have EQ3 := EQ2.out
  go_region_held3 (fun w' => w'.cell? ⟨w.heap.size, 0, none⟩ = some (.int .u64 (hi : Int)) ∧ w'.cell? ⟨w.heap.size, 1, none⟩ = some (.int .u64 (lo : Int)) ∧ w'.cell? ⟨w3.heap.size, 0, none⟩ = some (.int .u64 (e : Int)) ∧ w'.cell? ⟨w3.heap.size, 1, none⟩ = some (.int .u64 (f : Int)))
    (go_keep)
    (first
      | ((with_reducible refine (HM.out _).mono ?_); rintro e w4 ⟨rfl, hb4⟩; have hz4 : w3.heap.size + 1 ≤ w4.heap.size := (by have := hb4.size; simpa using this); have HN4 := Lib.hid (((HN3.out.alloc _).drew).below hb4); have HR4 := Lib.hid (((HR3.out.alloc _).drew).below hb4); have HW4 := Lib.hid (((HW3.out.alloc _).drew).below hb4); have HL4 := Lib.hid (((Blk.new w3 (.int .u64 (e : Int)) (.int .u64 (f : Int)) 81).drew).below hb4); have HB4 := Lib.hid (HB3.out.trans ((((Below.refl w3.heap.size w3).alloc (Nat.le_refl _) _).drew.trans (hb4.mono (by simp))).mono (by omega))); obtain ⟨_, s0, s1, _, _⟩ := id HN4.out; obtain ⟨_, s2, s3, _, _⟩ := id HW4.out; obtain ⟨_, s4, s5, _, _⟩ := id HL4.out; clear hb4))
  obtain ⟨_, p0, p1, p2, p3⟩ := id HR4.out
  go_wp2_with fail
  refine (HX.out _).mono ?_
  rintro e w5 ⟨rfl, hb5⟩
  have HR5 := Lib.hid (HR4.out.below hb5)
  have HB5 := Lib.hid (HB4.out.trans (hb5.mono (by have := HB4.out.size; omega)))
  clear hb5
  obtain ⟨_, p0, p1, p2, p3⟩ := id HR5.out
  obtain ⟨u0, u1⟩ := HR5.out.put (.int .u64 (r : Int)) (.int .u64 (s : Int))
  go_wp2
  exact bodyPost_ret (v := .agg #[.int .u64 (r : Int), .int .u64 (s : Int)]) (by simp [results, Tryd.results82, go_sem, u0, u1]) rfl ⟨rfl, (HB5.out.setCell (by simp) _).setCell (by simp) _⟩

set_option maxHeartbeats 3200000 in
theorem shrink_t2o (w : World) (v j how hi lo a b c d e f g h r s : Nat) (hv : v < 340282366920938463463374607431768211456) (hk : j < 4096)
    (hT : Two v hi lo) (hW : Two (v / 2 ^ (j + 1)) a b) (hS : Two (shl2 (v / 2 ^ (j + 1)) (j + 1)) c d) (hq : decide (c = hi ∧ d = lo) = false)
    (hQ : Two (v / 2 ^ j) e f) (qf : (Go.bits BinOp.and IntKind.u64 (f : Int) 1 == 1) = true) (hM : Two (shl2 (v / 2 ^ j) j) g h) (ht : decide (g = hi ∧ h = lo) = true) (h0 : ((how : Int) == 1) = false) (h2 : ((how : Int) == 2) = true) (qb : (Go.bits BinOp.and IntKind.u64 (b : Int) 1 == 1) = true) (hN : Two (v / 2 ^ (j + 1) + 1) r s) :
    Calls Tryd.prog 82 #[.agg #[.int .u64 (hi : Int), .int .u64 (lo : Int)], .int .u64 ((j : Int) + 1), .int .i64 (how : Int)] w (R2 w r s) := by
  have hl : v / 2 ^ (j + 1) < 340282366920938463463374607431768211456 := Nat.lt_of_le_of_lt (Nat.div_le_self _ _) hv
  have EQ1 := eqlN c d hi lo
  rw [hq] at EQ1
  have hj : (0 : Int) ≤ (j : Int) := by omega
  have hj' : (j : Int) < 4096 := by omega
  have hwr : IntKind.u64.wrap ((j : Int)) = (j : Int) := u64_in (by omega) (by omega)
  have HR := Lib.hid (fun w => right_at w v hi lo (j + 1) a b hv (by omega) hT hW)
  have HL := Lib.hid (fun w => left_at w (v / 2 ^ (j + 1)) a b (j + 1) c d hl (by omega) hW hS)
  rw [show ((j + 1 : Nat) : Int) = (j : Int) + 1 from rfl] at HR HL
  have HQ := Lib.hid (fun w => right_at w v hi lo j e f hv (by omega) hT hQ)
  have hl2 : v / 2 ^ j < 340282366920938463463374607431768211456 := Nat.lt_of_le_of_lt (Nat.div_le_self _ _) hv
  have HM := Lib.hid (fun w => left_at w (v / 2 ^ j) e f j g h hl2 (by omega) hQ hM)
  have EQ2 := Lib.hid (eqlN g h hi lo)
  rw [ht] at EQ2
  have hl3 : v / 2 ^ (j + 1) < 340282366920938463463374607431768211455 := by
    have h1 : v / 2 ^ (j + 1) ≤ v / 2 := by rw [Nat.pow_succ, Nat.mul_comm, ← Nat.div_div_eq_div_mul]; exact Nat.div_le_self _ _
    omega
  have HX := Lib.hid (fun w => next_at w (v / 2 ^ (j + 1)) a b r s hl3 hW hN)
  clear hq hT hW hS hQ hl hv hl2 hM ht hl3 hN
  go_enter Tryd.func82, Tryd.ntmps82
  go_wp2_with fail
  refine (HR.out _).mono ?_
  rintro e w1 ⟨rfl, hb1⟩
  have hz1 : w.heap.size + 2 ≤ w1.heap.size := by have := hb1.size; simpa using this
  have N1 : Blk w1 w.heap.size (.int .u64 (hi : Int)) (.int .u64 (lo : Int)) := ((Blk.new w _ _ 81).alloc _).below hb1
  have R1 : Blk w1 (w.heap.size + 1) (.int .u64 0) (.int .u64 0) := (by simpa using Blk.new (w.alloc (.cells #[.int .u64 (hi : Int), .int .u64 (lo : Int)] 81)) (.int .u64 0) (.int .u64 0) 81 : Blk _ (w.heap.size + 1) _ _).below hb1
  have HB1 := Lib.hid (((Below.refl w.heap.size w).alloc (Nat.le_refl _) _).alloc (by simp) _ |>.trans (hb1.mono (by simp; omega)))
  obtain ⟨_, n0, n1, _, _⟩ := id N1
  have HN1 := Lib.hid N1
  have HR1 := Lib.hid R1
  clear hb1 N1 R1
  go_wp2_with fail
  go_region_held3 (fun w' => w'.cell? ⟨w.heap.size, 0, none⟩ = some (.int .u64 (hi : Int)) ∧ w'.cell? ⟨w.heap.size, 1, none⟩ = some (.int .u64 (lo : Int)) ∧ w'.cell? ⟨w1.heap.size, 0, none⟩ = some (.int .u64 (a : Int)) ∧ w'.cell? ⟨w1.heap.size, 1, none⟩ = some (.int .u64 (b : Int)))
    (go_keep)
    (first
      | ((with_reducible refine (HL.out _).mono ?_); rintro e w2 ⟨rfl, hb2⟩; have hz2 : w1.heap.size + 1 ≤ w2.heap.size := (by have := hb2.size; simpa using this); have HN2 := Lib.hid (((HN1.out.alloc _).drew).below hb2); have HR2 := Lib.hid (((HR1.out.alloc _).drew).below hb2); have HW2 := Lib.hid (((Blk.new w1 (.int .u64 (a : Int)) (.int .u64 (b : Int)) 81).drew).below hb2); have HB2 := Lib.hid (HB1.out.trans ((((Below.refl w1.heap.size w1).alloc (Nat.le_refl _) _).drew.trans (hb2.mono (by simp))).mono (by omega))); obtain ⟨_, m0, m1, _, _⟩ := id HN2.out; obtain ⟨_, m2, m3, _, _⟩ := id HW2.out; clear hb2))
  go_wp2_with fail
  refine (HQ.out _).mono ?_
  rintro e w3 ⟨rfl, hb3⟩
  have hz3 := hb3.size
  have HN3 := Lib.hid (HN2.out.below hb3)
  have HR3 := Lib.hid (HR2.out.below hb3)
  have HW3 := Lib.hid (HW2.out.below hb3)
  have HB3 := Lib.hid (HB2.out.trans (hb3.mono (by omega)))
  obtain ⟨_, k0, k1, _, _⟩ := id HN3.out
  obtain ⟨_, k2, k3, _, _⟩ := id HW3.out
  clear n0 n1 m0 m1 m2 m3 hb3 EQ1
  go_wp2_with fail
  have EQ3 := EQ2.out
  go_region_held3 (fun w' => w'.cell? ⟨w.heap.size, 0, none⟩ = some (.int .u64 (hi : Int)) ∧ w'.cell? ⟨w.heap.size, 1, none⟩ = some (.int .u64 (lo : Int)) ∧ w'.cell? ⟨w3.heap.size, 0, none⟩ = some (.int .u64 (e : Int)) ∧ w'.cell? ⟨w3.heap.size, 1, none⟩ = some (.int .u64 (f : Int)))
    (go_keep)
    (first
      | ((with_reducible refine (HM.out _).mono ?_); rintro e w4 ⟨rfl, hb4⟩; have hz4 : w3.heap.size + 1 ≤ w4.heap.size := (by have := hb4.size; simpa using this); have HN4 := Lib.hid (((HN3.out.alloc _).drew).below hb4); have HR4 := Lib.hid (((HR3.out.alloc _).drew).below hb4); have HW4 := Lib.hid (((HW3.out.alloc _).drew).below hb4); have HL4 := Lib.hid (((Blk.new w3 (.int .u64 (e : Int)) (.int .u64 (f : Int)) 81).drew).below hb4); have HB4 := Lib.hid (HB3.out.trans ((((Below.refl w3.heap.size w3).alloc (Nat.le_refl _) _).drew.trans (hb4.mono (by simp))).mono (by omega))); obtain ⟨_, s0, s1, _, _⟩ := id HN4.out; obtain ⟨_, s2, s3, _, _⟩ := id HW4.out; obtain ⟨_, s4, s5, _, _⟩ := id HL4.out; clear hb4))
  obtain ⟨_, p0, p1, p2, p3⟩ := id HR4.out
  go_wp2_with fail
  refine (HX.out _).mono ?_
  rintro e w5 ⟨rfl, hb5⟩
  have HR5 := Lib.hid (HR4.out.below hb5)
  have HB5 := Lib.hid (HB4.out.trans (hb5.mono (by have := HB4.out.size; omega)))
  clear hb5
  obtain ⟨_, p0, p1, p2, p3⟩ := id HR5.out
  obtain ⟨u0, u1⟩ := HR5.out.put (.int .u64 (r : Int)) (.int .u64 (s : Int))
  go_wp2
  exact bodyPost_ret (v := .agg #[.int .u64 (r : Int), .int .u64 (s : Int)]) (by simp [results, Tryd.results82, go_sem, u0, u1]) rfl ⟨rfl, (HB5.out.setCell (by simp) _).setCell (by simp) _⟩

set_option maxHeartbeats 3200000 in
theorem shrink_t2e (w : World) (v j how hi lo a b c d e f g h : Nat) (hv : v < 340282366920938463463374607431768211456) (hk : j < 4096)
    (hT : Two v hi lo) (hW : Two (v / 2 ^ (j + 1)) a b) (hS : Two (shl2 (v / 2 ^ (j + 1)) (j + 1)) c d) (hq : decide (c = hi ∧ d = lo) = false)
    (hQ : Two (v / 2 ^ j) e f) (qf : (Go.bits BinOp.and IntKind.u64 (f : Int) 1 == 1) = true) (hM : Two (shl2 (v / 2 ^ j) j) g h) (ht : decide (g = hi ∧ h = lo) = true) (h0 : ((how : Int) == 1) = false) (h2 : ((how : Int) == 2) = true) (qb : (Go.bits BinOp.and IntKind.u64 (b : Int) 1 == 1) = false) :
    Calls Tryd.prog 82 #[.agg #[.int .u64 (hi : Int), .int .u64 (lo : Int)], .int .u64 ((j : Int) + 1), .int .i64 (how : Int)] w (R2 w a b) := by
  have hl : v / 2 ^ (j + 1) < 340282366920938463463374607431768211456 := Nat.lt_of_le_of_lt (Nat.div_le_self _ _) hv
  have EQ1 := eqlN c d hi lo
  rw [hq] at EQ1
  have hj : (0 : Int) ≤ (j : Int) := by omega
  have hj' : (j : Int) < 4096 := by omega
  have hwr : IntKind.u64.wrap ((j : Int)) = (j : Int) := u64_in (by omega) (by omega)
  have HR := Lib.hid (fun w => right_at w v hi lo (j + 1) a b hv (by omega) hT hW)
  have HL := Lib.hid (fun w => left_at w (v / 2 ^ (j + 1)) a b (j + 1) c d hl (by omega) hW hS)
  rw [show ((j + 1 : Nat) : Int) = (j : Int) + 1 from rfl] at HR HL
  have HQ := Lib.hid (fun w => right_at w v hi lo j e f hv (by omega) hT hQ)
  have hl2 : v / 2 ^ j < 340282366920938463463374607431768211456 := Nat.lt_of_le_of_lt (Nat.div_le_self _ _) hv
  have HM := Lib.hid (fun w => left_at w (v / 2 ^ j) e f j g h hl2 (by omega) hQ hM)
  have EQ2 := Lib.hid (eqlN g h hi lo)
  rw [ht] at EQ2
  clear hq hT hW hS hQ hl hv hl2 hM ht
  go_enter Tryd.func82, Tryd.ntmps82
  go_wp2_with fail
  refine (HR.out _).mono ?_
  rintro e w1 ⟨rfl, hb1⟩
  have hz1 : w.heap.size + 2 ≤ w1.heap.size := by have := hb1.size; simpa using this
  have N1 : Blk w1 w.heap.size (.int .u64 (hi : Int)) (.int .u64 (lo : Int)) := ((Blk.new w _ _ 81).alloc _).below hb1
  have R1 : Blk w1 (w.heap.size + 1) (.int .u64 0) (.int .u64 0) := (by simpa using Blk.new (w.alloc (.cells #[.int .u64 (hi : Int), .int .u64 (lo : Int)] 81)) (.int .u64 0) (.int .u64 0) 81 : Blk _ (w.heap.size + 1) _ _).below hb1
  have HB1 := Lib.hid (((Below.refl w.heap.size w).alloc (Nat.le_refl _) _).alloc (by simp) _ |>.trans (hb1.mono (by simp; omega)))
  obtain ⟨_, n0, n1, _, _⟩ := id N1
  have HN1 := Lib.hid N1
  have HR1 := Lib.hid R1
  clear hb1 N1 R1
  go_wp2_with fail
  go_region_held3 (fun w' => w'.cell? ⟨w.heap.size, 0, none⟩ = some (.int .u64 (hi : Int)) ∧ w'.cell? ⟨w.heap.size, 1, none⟩ = some (.int .u64 (lo : Int)) ∧ w'.cell? ⟨w1.heap.size, 0, none⟩ = some (.int .u64 (a : Int)) ∧ w'.cell? ⟨w1.heap.size, 1, none⟩ = some (.int .u64 (b : Int)))
    (go_keep)
    (first
      | ((with_reducible refine (HL.out _).mono ?_); rintro e w2 ⟨rfl, hb2⟩; have hz2 : w1.heap.size + 1 ≤ w2.heap.size := (by have := hb2.size; simpa using this); have HN2 := Lib.hid (((HN1.out.alloc _).drew).below hb2); have HR2 := Lib.hid (((HR1.out.alloc _).drew).below hb2); have HW2 := Lib.hid (((Blk.new w1 (.int .u64 (a : Int)) (.int .u64 (b : Int)) 81).drew).below hb2); have HB2 := Lib.hid (HB1.out.trans ((((Below.refl w1.heap.size w1).alloc (Nat.le_refl _) _).drew.trans (hb2.mono (by simp))).mono (by omega))); obtain ⟨_, m0, m1, _, _⟩ := id HN2.out; obtain ⟨_, m2, m3, _, _⟩ := id HW2.out; clear hb2))
  go_wp2_with fail
  refine (HQ.out _).mono ?_
  rintro e w3 ⟨rfl, hb3⟩
  have hz3 := hb3.size
  have HN3 := Lib.hid (HN2.out.below hb3)
  have HR3 := Lib.hid (HR2.out.below hb3)
  have HW3 := Lib.hid (HW2.out.below hb3)
  have HB3 := Lib.hid (HB2.out.trans (hb3.mono (by omega)))
  obtain ⟨_, k0, k1, _, _⟩ := id HN3.out
  obtain ⟨_, k2, k3, _, _⟩ := id HW3.out
  clear n0 n1 m0 m1 m2 m3 hb3 EQ1
  go_wp2_with fail
  have EQ3 := EQ2.out
  go_region_held3 (fun w' => w'.cell? ⟨w.heap.size, 0, none⟩ = some (.int .u64 (hi : Int)) ∧ w'.cell? ⟨w.heap.size, 1, none⟩ = some (.int .u64 (lo : Int)) ∧ w'.cell? ⟨w3.heap.size, 0, none⟩ = some (.int .u64 (e : Int)) ∧ w'.cell? ⟨w3.heap.size, 1, none⟩ = some (.int .u64 (f : Int)))
    (go_keep)
    (first
      | ((with_reducible refine (HM.out _).mono ?_); rintro e w4 ⟨rfl, hb4⟩; have hz4 : w3.heap.size + 1 ≤ w4.heap.size := (by have := hb4.size; simpa using this); have HN4 := Lib.hid (((HN3.out.alloc _).drew).below hb4); have HR4 := Lib.hid (((HR3.out.alloc _).drew).below hb4); have HW4 := Lib.hid (((HW3.out.alloc _).drew).below hb4); have HL4 := Lib.hid (((Blk.new w3 (.int .u64 (e : Int)) (.int .u64 (f : Int)) 81).drew).below hb4); have HB4 := Lib.hid (HB3.out.trans ((((Below.refl w3.heap.size w3).alloc (Nat.le_refl _) _).drew.trans (hb4.mono (by simp))).mono (by omega))); obtain ⟨_, s0, s1, _, _⟩ := id HN4.out; obtain ⟨_, s2, s3, _, _⟩ := id HW4.out; obtain ⟨_, s4, s5, _, _⟩ := id HL4.out; clear hb4))
  obtain ⟨_, p0, p1, p2, p3⟩ := id HR4.out
  obtain ⟨u0, u1⟩ := HR4.out.put (.int .u64 (a : Int)) (.int .u64 (b : Int))
  go_wp2
  exact bodyPost_ret (v := .agg #[.int .u64 (a : Int), .int .u64 (b : Int)]) (by simp [results, Tryd.results82, go_sem, u0, u1]) rfl ⟨rfl, (HB4.out.setCell (by simp) _).setCell (by simp) _⟩

set_option maxHeartbeats 3200000 in
theorem shrink_u0 (w : World) (v j how hi lo a b c d e f g h : Nat) (hv : v < 340282366920938463463374607431768211456) (hk : j < 4096)
    (hT : Two v hi lo) (hW : Two (v / 2 ^ (j + 1)) a b) (hS : Two (shl2 (v / 2 ^ (j + 1)) (j + 1)) c d) (hq : decide (c = hi ∧ d = lo) = false)
    (hQ : Two (v / 2 ^ j) e f) (qf : (Go.bits BinOp.and IntKind.u64 (f : Int) 1 == 1) = true) (hM : Two (shl2 (v / 2 ^ j) j) g h) (ht : decide (g = hi ∧ h = lo) = false) (h0 : ((how : Int) == 1) = false) (h2 : ((how : Int) == 2) = false) :
    Calls Tryd.prog 82 #[.agg #[.int .u64 (hi : Int), .int .u64 (lo : Int)], .int .u64 ((j : Int) + 1), .int .i64 (how : Int)] w (R2 w a b) := by
  have hl : v / 2 ^ (j + 1) < 340282366920938463463374607431768211456 := Nat.lt_of_le_of_lt (Nat.div_le_self _ _) hv
  have EQ1 := eqlN c d hi lo
  rw [hq] at EQ1
  have hj : (0 : Int) ≤ (j : Int) := by omega
  have hj' : (j : Int) < 4096 := by omega
  have hwr : IntKind.u64.wrap ((j : Int)) = (j : Int) := u64_in (by omega) (by omega)
  have HR := Lib.hid (fun w => right_at w v hi lo (j + 1) a b hv (by omega) hT hW)
  have HL := Lib.hid (fun w => left_at w (v / 2 ^ (j + 1)) a b (j + 1) c d hl (by omega) hW hS)
  rw [show ((j + 1 : Nat) : Int) = (j : Int) + 1 from rfl] at HR HL
  have HQ := Lib.hid (fun w => right_at w v hi lo j e f hv (by omega) hT hQ)
  have hl2 : v / 2 ^ j < 340282366920938463463374607431768211456 := Nat.lt_of_le_of_lt (Nat.div_le_self _ _) hv
  have HM := Lib.hid (fun w => left_at w (v / 2 ^ j) e f j g h hl2 (by omega) hQ hM)
  have EQ2 := Lib.hid (eqlN g h hi lo)
  rw [ht] at EQ2
  clear hq hT hW hS hQ hl hv hl2 hM ht
  go_enter Tryd.func82, Tryd.ntmps82
  go_wp2_with fail
  refine (HR.out _).mono ?_
  rintro e w1 ⟨rfl, hb1⟩
  have hz1 : w.heap.size + 2 ≤ w1.heap.size := by have := hb1.size; simpa using this
  have N1 : Blk w1 w.heap.size (.int .u64 (hi : Int)) (.int .u64 (lo : Int)) := ((Blk.new w _ _ 81).alloc _).below hb1
  have R1 : Blk w1 (w.heap.size + 1) (.int .u64 0) (.int .u64 0) := (by simpa using Blk.new (w.alloc (.cells #[.int .u64 (hi : Int), .int .u64 (lo : Int)] 81)) (.int .u64 0) (.int .u64 0) 81 : Blk _ (w.heap.size + 1) _ _).below hb1
  have HB1 := Lib.hid (((Below.refl w.heap.size w).alloc (Nat.le_refl _) _).alloc (by simp) _ |>.trans (hb1.mono (by simp; omega)))
  obtain ⟨_, n0, n1, _, _⟩ := id N1
  have HN1 := Lib.hid N1
  have HR1 := Lib.hid R1
  clear hb1 N1 R1
  go_wp2_with fail
  go_region_held3 (fun w' => w'.cell? ⟨w.heap.size, 0, none⟩ = some (.int .u64 (hi : Int)) ∧ w'.cell? ⟨w.heap.size, 1, none⟩ = some (.int .u64 (lo : Int)) ∧ w'.cell? ⟨w1.heap.size, 0, none⟩ = some (.int .u64 (a : Int)) ∧ w'.cell? ⟨w1.heap.size, 1, none⟩ = some (.int .u64 (b : Int)))
    (go_keep)
    (first
      | ((with_reducible refine (HL.out _).mono ?_); rintro e w2 ⟨rfl, hb2⟩; have hz2 : w1.heap.size + 1 ≤ w2.heap.size := (by have := hb2.size; simpa using this); have HN2 := Lib.hid (((HN1.out.alloc _).drew).below hb2); have HR2 := Lib.hid (((HR1.out.alloc _).drew).below hb2); have HW2 := Lib.hid (((Blk.new w1 (.int .u64 (a : Int)) (.int .u64 (b : Int)) 81).drew).below hb2); have HB2 := Lib.hid (HB1.out.trans ((((Below.refl w1.heap.size w1).alloc (Nat.le_refl _) _).drew.trans (hb2.mono (by simp))).mono (by omega))); obtain ⟨_, m0, m1, _, _⟩ := id HN2.out; obtain ⟨_, m2, m3, _, _⟩ := id HW2.out; clear hb2))
  go_wp2_with fail
  refine (HQ.out _).mono ?_
  rintro e w3 ⟨rfl, hb3⟩
  have hz3 := hb3.size
  have HN3 := Lib.hid (HN2.out.below hb3)
  have HR3 := Lib.hid (HR2.out.below hb3)
  have HW3 := Lib.hid (HW2.out.below hb3)
  have HB3 := Lib.hid (HB2.out.trans (hb3.mono (by omega)))
  obtain ⟨_, k0, k1, _, _⟩ := id HN3.out
  obtain ⟨_, k2, k3, _, _⟩ := id HW3.out
  clear n0 n1 m0 m1 m2 m3 hb3 EQ1
  go_wp2_with fail
  have EQ3 := EQ2.out
  go_region_held3 (fun w' => w'.cell? ⟨w.heap.size, 0, none⟩ = some (.int .u64 (hi : Int)) ∧ w'.cell? ⟨w.heap.size, 1, none⟩ = some (.int .u64 (lo : Int)) ∧ w'.cell? ⟨w3.heap.size, 0, none⟩ = some (.int .u64 (e : Int)) ∧ w'.cell? ⟨w3.heap.size, 1, none⟩ = some (.int .u64 (f : Int)))
    (go_keep)
    (first
      | ((with_reducible refine (HM.out _).mono ?_); rintro e w4 ⟨rfl, hb4⟩; have hz4 : w3.heap.size + 1 ≤ w4.heap.size := (by have := hb4.size; simpa using this); have HN4 := Lib.hid (((HN3.out.alloc _).drew).below hb4); have HR4 := Lib.hid (((HR3.out.alloc _).drew).below hb4); have HW4 := Lib.hid (((HW3.out.alloc _).drew).below hb4); have HL4 := Lib.hid (((Blk.new w3 (.int .u64 (e : Int)) (.int .u64 (f : Int)) 81).drew).below hb4); have HB4 := Lib.hid (HB3.out.trans ((((Below.refl w3.heap.size w3).alloc (Nat.le_refl _) _).drew.trans (hb4.mono (by simp))).mono (by omega))); obtain ⟨_, s0, s1, _, _⟩ := id HN4.out; obtain ⟨_, s2, s3, _, _⟩ := id HW4.out; obtain ⟨_, s4, s5, _, _⟩ := id HL4.out; clear hb4))
  obtain ⟨_, p0, p1, p2, p3⟩ := id HR4.out
  obtain ⟨u0, u1⟩ := HR4.out.put (.int .u64 (a : Int)) (.int .u64 (b : Int))
  go_wp2
  exact bodyPost_ret (v := .agg #[.int .u64 (a : Int), .int .u64 (b : Int)]) (by simp [results, Tryd.results82, go_sem, u0, u1]) rfl ⟨rfl, (HB4.out.setCell (by simp) _).setCell (by simp) _⟩

set_option maxHeartbeats 3200000 in
theorem shrink_u1 (w : World) (v j how hi lo a b c d e f g h r s : Nat) (hv : v < 340282366920938463463374607431768211456) (hk : j < 4096)
    (hT : Two v hi lo) (hW : Two (v / 2 ^ (j + 1)) a b) (hS : Two (shl2 (v / 2 ^ (j + 1)) (j + 1)) c d) (hq : decide (c = hi ∧ d = lo) = false)
    (hQ : Two (v / 2 ^ j) e f) (qf : (Go.bits BinOp.and IntKind.u64 (f : Int) 1 == 1) = true) (hM : Two (shl2 (v / 2 ^ j) j) g h) (ht : decide (g = hi ∧ h = lo) = false) (h0 : ((how : Int) == 1) = true) (hN : Two (v / 2 ^ (j + 1) + 1) r s) :
    Calls Tryd.prog 82 #[.agg #[.int .u64 (hi : Int), .int .u64 (lo : Int)], .int .u64 ((j : Int) + 1), .int .i64 (how : Int)] w (R2 w r s) := by
  have hl : v / 2 ^ (j + 1) < 340282366920938463463374607431768211456 := Nat.lt_of_le_of_lt (Nat.div_le_self _ _) hv
  have EQ1 := eqlN c d hi lo
  rw [hq] at EQ1
  have hj : (0 : Int) ≤ (j : Int) := by omega
  have hj' : (j : Int) < 4096 := by omega
  have hwr : IntKind.u64.wrap ((j : Int)) = (j : Int) := u64_in (by omega) (by omega)
  have HR := Lib.hid (fun w => right_at w v hi lo (j + 1) a b hv (by omega) hT hW)
  have HL := Lib.hid (fun w => left_at w (v / 2 ^ (j + 1)) a b (j + 1) c d hl (by omega) hW hS)
  rw [show ((j + 1 : Nat) : Int) = (j : Int) + 1 from rfl] at HR HL
  have HQ := Lib.hid (fun w => right_at w v hi lo j e f hv (by omega) hT hQ)
  have hl2 : v / 2 ^ j < 340282366920938463463374607431768211456 := Nat.lt_of_le_of_lt (Nat.div_le_self _ _) hv
  have HM := Lib.hid (fun w => left_at w (v / 2 ^ j) e f j g h hl2 (by omega) hQ hM)
  have EQ2 := Lib.hid (eqlN g h hi lo)
  rw [ht] at EQ2
  have hl3 : v / 2 ^ (j + 1) < 340282366920938463463374607431768211455 := by
    have h1 : v / 2 ^ (j + 1) ≤ v / 2 := by rw [Nat.pow_succ, Nat.mul_comm, ← Nat.div_div_eq_div_mul]; exact Nat.div_le_self _ _
    omega
  have HX := Lib.hid (fun w => next_at w (v / 2 ^ (j + 1)) a b r s hl3 hW hN)
  clear hq hT hW hS hQ hl hv hl2 hM ht hl3 hN
  go_enter Tryd.func82, Tryd.ntmps82
  go_wp2_with fail
  refine (HR.out _).mono ?_
  rintro e w1 ⟨rfl, hb1⟩
  have hz1 : w.heap.size + 2 ≤ w1.heap.size := by have := hb1.size; simpa using this
  have N1 : Blk w1 w.heap.size (.int .u64 (hi : Int)) (.int .u64 (lo : Int)) := ((Blk.new w _ _ 81).alloc _).below hb1
  have R1 : Blk w1 (w.heap.size + 1) (.int .u64 0) (.int .u64 0) := (by simpa using Blk.new (w.alloc (.cells #[.int .u64 (hi : Int), .int .u64 (lo : Int)] 81)) (.int .u64 0) (.int .u64 0) 81 : Blk _ (w.heap.size + 1) _ _).below hb1
  have HB1 := Lib.hid (((Below.refl w.heap.size w).alloc (Nat.le_refl _) _).alloc (by simp) _ |>.trans (hb1.mono (by simp; omega)))
  obtain ⟨_, n0, n1, _, _⟩ := id N1
  have HN1 := Lib.hid N1
  have HR1 := Lib.hid R1
  clear hb1 N1 R1
  go_wp2_with fail
  go_region_held3 (fun w' => w'.cell? ⟨w.heap.size, 0, none⟩ = some (.int .u64 (hi : Int)) ∧ w'.cell? ⟨w.heap.size, 1, none⟩ = some (.int .u64 (lo : Int)) ∧ w'.cell? ⟨w1.heap.size, 0, none⟩ = some (.int .u64 (a : Int)) ∧ w'.cell? ⟨w1.heap.size, 1, none⟩ = some (.int .u64 (b : Int)))
    (go_keep)
    (first
      | ((with_reducible refine (HL.out _).mono ?_); rintro e w2 ⟨rfl, hb2⟩; have hz2 : w1.heap.size + 1 ≤ w2.heap.size := (by have := hb2.size; simpa using this); have HN2 := Lib.hid (((HN1.out.alloc _).drew).below hb2); have HR2 := Lib.hid (((HR1.out.alloc _).drew).below hb2); have HW2 := Lib.hid (((Blk.new w1 (.int .u64 (a : Int)) (.int .u64 (b : Int)) 81).drew).below hb2); have HB2 := Lib.hid (HB1.out.trans ((((Below.refl w1.heap.size w1).alloc (Nat.le_refl _) _).drew.trans (hb2.mono (by simp))).mono (by omega))); obtain ⟨_, m0, m1, _, _⟩ := id HN2.out; obtain ⟨_, m2, m3, _, _⟩ := id HW2.out; clear hb2))
  go_wp2_with fail
  refine (HQ.out _).mono ?_
  rintro e w3 ⟨rfl, hb3⟩
  have hz3 := hb3.size
  have HN3 := Lib.hid (HN2.out.below hb3)
  have HR3 := Lib.hid (HR2.out.below hb3)
  have HW3 := Lib.hid (HW2.out.below hb3)
  have HB3 := Lib.hid (HB2.out.trans (hb3.mono (by omega)))
  obtain ⟨_, k0, k1, _, _⟩ := id HN3.out
  obtain ⟨_, k2, k3, _, _⟩ := id HW3.out
  clear n0 n1 m0 m1 m2 m3 hb3 EQ1
  go_wp2_with fail
  have EQ3 := EQ2.out
  go_region_held3 (fun w' => w'.cell? ⟨w.heap.size, 0, none⟩ = some (.int .u64 (hi : Int)) ∧ w'.cell? ⟨w.heap.size, 1, none⟩ = some (.int .u64 (lo : Int)) ∧ w'.cell? ⟨w3.heap.size, 0, none⟩ = some (.int .u64 (e : Int)) ∧ w'.cell? ⟨w3.heap.size, 1, none⟩ = some (.int .u64 (f : Int)))
    (go_keep)
    (first
      | ((with_reducible refine (HM.out _).mono ?_); rintro e w4 ⟨rfl, hb4⟩; have hz4 : w3.heap.size + 1 ≤ w4.heap.size := (by have := hb4.size; simpa using this); have HN4 := Lib.hid (((HN3.out.alloc _).drew).below hb4); have HR4 := Lib.hid (((HR3.out.alloc _).drew).below hb4); have HW4 := Lib.hid (((HW3.out.alloc _).drew).below hb4); have HL4 := Lib.hid (((Blk.new w3 (.int .u64 (e : Int)) (.int .u64 (f : Int)) 81).drew).below hb4); have HB4 := Lib.hid (HB3.out.trans ((((Below.refl w3.heap.size w3).alloc (Nat.le_refl _) _).drew.trans (hb4.mono (by simp))).mono (by omega))); obtain ⟨_, s0, s1, _, _⟩ := id HN4.out; obtain ⟨_, s2, s3, _, _⟩ := id HW4.out; obtain ⟨_, s4, s5, _, _⟩ := id HL4.out; clear hb4))
  obtain ⟨_, p0, p1, p2, p3⟩ := id HR4.out
  go_wp2_with fail
  refine (HX.out _).mono ?_
  rintro e w5 ⟨rfl, hb5⟩
  have HR5 := Lib.hid (HR4.out.below hb5)
  have HB5 := Lib.hid (HB4.out.trans (hb5.mono (by have := HB4.out.size; omega)))
  clear hb5
  obtain ⟨_, p0, p1, p2, p3⟩ := id HR5.out
  obtain ⟨u0, u1⟩ := HR5.out.put (.int .u64 (r : Int)) (.int .u64 (s : Int))
  go_wp2
  exact bodyPost_ret (v := .agg #[.int .u64 (r : Int), .int .u64 (s : Int)]) (by simp [results, Tryd.results82, go_sem, u0, u1]) rfl ⟨rfl, (HB5.out.setCell (by simp) _).setCell (by simp) _⟩

set_option maxHeartbeats 3200000 in
theorem shrink_u2o (w : World) (v j how hi lo a b c d e f g h r s : Nat) (hv : v < 340282366920938463463374607431768211456) (hk : j < 4096)
    (hT : Two v hi lo) (hW : Two (v / 2 ^ (j + 1)) a b) (hS : Two (shl2 (v / 2 ^ (j + 1)) (j + 1)) c d) (hq : decide (c = hi ∧ d = lo) = false)
    (hQ : Two (v / 2 ^ j) e f) (qf : (Go.bits BinOp.and IntKind.u64 (f : Int) 1 == 1) = true) (hM : Two (shl2 (v / 2 ^ j) j) g h) (ht : decide (g = hi ∧ h = lo) = false) (h0 : ((how : Int) == 1) = false) (h2 : ((how : Int) == 2) = true) (qb : (Go.bits BinOp.and IntKind.u64 (b : Int) 1 == 1) = true) (hN : Two (v / 2 ^ (j + 1) + 1) r s) :
    Calls Tryd.prog 82 #[.agg #[.int .u64 (hi : Int), .int .u64 (lo : Int)], .int .u64 ((j : Int) + 1), .int .i64 (how : Int)] w (R2 w r s) := by
  have hl : v / 2 ^ (j + 1) < 340282366920938463463374607431768211456 := Nat.lt_of_le_of_lt (Nat.div_le_self _ _) hv
  have EQ1 := eqlN c d hi lo
  rw [hq] at EQ1
  have hj : (0 : Int) ≤ (j : Int) := by omega
  have hj' : (j : Int) < 4096 := by omega
  have hwr : IntKind.u64.wrap ((j : Int)) = (j : Int) := u64_in (by omega) (by omega)
  have HR := Lib.hid (fun w => right_at w v hi lo (j + 1) a b hv (by omega) hT hW)
  have HL := Lib.hid (fun w => left_at w (v / 2 ^ (j + 1)) a b (j + 1) c d hl (by omega) hW hS)
  rw [show ((j + 1 : Nat) : Int) = (j : Int) + 1 from rfl] at HR HL
  have HQ := Lib.hid (fun w => right_at w v hi lo j e f hv (by omega) hT hQ)
  have hl2 : v / 2 ^ j < 340282366920938463463374607431768211456 := Nat.lt_of_le_of_lt (Nat.div_le_self _ _) hv
  have HM := Lib.hid (fun w => left_at w (v / 2 ^ j) e f j g h hl2 (by omega) hQ hM)
  have EQ2 := Lib.hid (eqlN g h hi lo)
  rw [ht] at EQ2
  have hl3 : v / 2 ^ (j + 1) < 340282366920938463463374607431768211455 := by
    have h1 : v / 2 ^ (j + 1) ≤ v / 2 := by rw [Nat.pow_succ, Nat.mul_comm, ← Nat.div_div_eq_div_mul]; exact Nat.div_le_self _ _
    omega
  have HX := Lib.hid (fun w => next_at w (v / 2 ^ (j + 1)) a b r s hl3 hW hN)
  clear hq hT hW hS hQ hl hv hl2 hM ht hl3 hN
  go_enter Tryd.func82, Tryd.ntmps82
  go_wp2_with fail
  refine (HR.out _).mono ?_
  rintro e w1 ⟨rfl, hb1⟩
  have hz1 : w.heap.size + 2 ≤ w1.heap.size := by have := hb1.size; simpa using this
  have N1 : Blk w1 w.heap.size (.int .u64 (hi : Int)) (.int .u64 (lo : Int)) := ((Blk.new w _ _ 81).alloc _).below hb1
  have R1 : Blk w1 (w.heap.size + 1) (.int .u64 0) (.int .u64 0) := (by simpa using Blk.new (w.alloc (.cells #[.int .u64 (hi : Int), .int .u64 (lo : Int)] 81)) (.int .u64 0) (.int .u64 0) 81 : Blk _ (w.heap.size + 1) _ _).below hb1
  have HB1 := Lib.hid (((Below.refl w.heap.size w).alloc (Nat.le_refl _) _).alloc (by simp) _ |>.trans (hb1.mono (by simp; omega)))
  obtain ⟨_, n0, n1, _, _⟩ := id N1
  have HN1 := Lib.hid N1
  have HR1 := Lib.hid R1
  clear hb1 N1 R1
  go_wp2_with fail
  go_region_held3 (fun w' => w'.cell? ⟨w.heap.size, 0, none⟩ = some (.int .u64 (hi : Int)) ∧ w'.cell? ⟨w.heap.size, 1, none⟩ = some (.int .u64 (lo : Int)) ∧ w'.cell? ⟨w1.heap.size, 0, none⟩ = some (.int .u64 (a : Int)) ∧ w'.cell? ⟨w1.heap.size, 1, none⟩ = some (.int .u64 (b : Int)))
    (go_keep)
    (first
      | ((with_reducible refine (HL.out _).mono ?_); rintro e w2 ⟨rfl, hb2⟩; have hz2 : w1.heap.size + 1 ≤ w2.heap.size := (by have := hb2.size; simpa using this); have HN2 := Lib.hid (((HN1.out.alloc _).drew).below hb2); have HR2 := Lib.hid (((HR1.out.alloc _).drew).below hb2); have HW2 := Lib.hid (((Blk.new w1 (.int .u64 (a : Int)) (.int .u64 (b : Int)) 81).drew).below hb2); have HB2 := Lib.hid (HB1.out.trans ((((Below.refl w1.heap.size w1).alloc (Nat.le_refl _) _).drew.trans (hb2.mono (by simp))).mono (by omega))); obtain ⟨_, m0, m1, _, _⟩ := id HN2.out; obtain ⟨_, m2, m3, _, _⟩ := id HW2.out; clear hb2))
  go_wp2_with fail
  refine (HQ.out _).mono ?_
  rintro e w3 ⟨rfl, hb3⟩
  have hz3 := hb3.size
  have HN3 := Lib.hid (HN2.out.below hb3)
  have HR3 := Lib.hid (HR2.out.below hb3)
  have HW3 := Lib.hid (HW2.out.below hb3)
  have HB3 := Lib.hid (HB2.out.trans (hb3.mono (by omega)))
  obtain ⟨_, k0, k1, _, _⟩ := id HN3.out
  obtain ⟨_, k2, k3, _, _⟩ := id HW3.out
  clear n0 n1 m0 m1 m2 m3 hb3 EQ1
  go_wp2_with fail
  have EQ3 := EQ2.out
  go_region_held3 (fun w' => w'.cell? ⟨w.heap.size, 0, none⟩ = some (.int .u64 (hi : Int)) ∧ w'.cell? ⟨w.heap.size, 1, none⟩ = some (.int .u64 (lo : Int)) ∧ w'.cell? ⟨w3.heap.size, 0, none⟩ = some (.int .u64 (e : Int)) ∧ w'.cell? ⟨w3.heap.size, 1, none⟩ = some (.int .u64 (f : Int)))
    (go_keep)
    (first
      | ((with_reducible refine (HM.out _).mono ?_); rintro e w4 ⟨rfl, hb4⟩; have hz4 : w3.heap.size + 1 ≤ w4.heap.size := (by have := hb4.size; simpa using this); have HN4 := Lib.hid (((HN3.out.alloc _).drew).below hb4); have HR4 := Lib.hid (((HR3.out.alloc _).drew).below hb4); have HW4 := Lib.hid (((HW3.out.alloc _).drew).below hb4); have HL4 := Lib.hid (((Blk.new w3 (.int .u64 (e : Int)) (.int .u64 (f : Int)) 81).drew).below hb4); have HB4 := Lib.hid (HB3.out.trans ((((Below.refl w3.heap.size w3).alloc (Nat.le_refl _) _).drew.trans (hb4.mono (by simp))).mono (by omega))); obtain ⟨_, s0, s1, _, _⟩ := id HN4.out; obtain ⟨_, s2, s3, _, _⟩ := id HW4.out; obtain ⟨_, s4, s5, _, _⟩ := id HL4.out; clear hb4))
  obtain ⟨_, p0, p1, p2, p3⟩ := id HR4.out
  go_wp2_with fail
  refine (HX.out _).mono ?_
  rintro e w5 ⟨rfl, hb5⟩
  have HR5 := Lib.hid (HR4.out.below hb5)
  have HB5 := Lib.hid (HB4.out.trans (hb5.mono (by have := HB4.out.size; omega)))
  clear hb5
  obtain ⟨_, p0, p1, p2, p3⟩ := id HR5.out
  obtain ⟨u0, u1⟩ := HR5.out.put (.int .u64 (r : Int)) (.int .u64 (s : Int))
  go_wp2
  exact bodyPost_ret (v := .agg #[.int .u64 (r : Int), .int .u64 (s : Int)]) (by simp [results, Tryd.results82, go_sem, u0, u1]) rfl ⟨rfl, (HB5.out.setCell (by simp) _).setCell (by simp) _⟩

set_option maxHeartbeats 3200000 in
theorem shrink_u2e (w : World) (v j how hi lo a b c d e f g h r s : Nat) (hv : v < 340282366920938463463374607431768211456) (hk : j < 4096)
    (hT : Two v hi lo) (hW : Two (v / 2 ^ (j + 1)) a b) (hS : Two (shl2 (v / 2 ^ (j + 1)) (j + 1)) c d) (hq : decide (c = hi ∧ d = lo) = false)
    (hQ : Two (v / 2 ^ j) e f) (qf : (Go.bits BinOp.and IntKind.u64 (f : Int) 1 == 1) = true) (hM : Two (shl2 (v / 2 ^ j) j) g h) (ht : decide (g = hi ∧ h = lo) = false) (h0 : ((how : Int) == 1) = false) (h2 : ((how : Int) == 2) = true) (qb : (Go.bits BinOp.and IntKind.u64 (b : Int) 1 == 1) = false) (hN : Two (v / 2 ^ (j + 1) + 1) r s) :
    Calls Tryd.prog 82 #[.agg #[.int .u64 (hi : Int), .int .u64 (lo : Int)], .int .u64 ((j : Int) + 1), .int .i64 (how : Int)] w (R2 w r s) := by
  have hl : v / 2 ^ (j + 1) < 340282366920938463463374607431768211456 := Nat.lt_of_le_of_lt (Nat.div_le_self _ _) hv
  have EQ1 := eqlN c d hi lo
  rw [hq] at EQ1
  have hj : (0 : Int) ≤ (j : Int) := by omega
  have hj' : (j : Int) < 4096 := by omega
  have hwr : IntKind.u64.wrap ((j : Int)) = (j : Int) := u64_in (by omega) (by omega)
  have HR := Lib.hid (fun w => right_at w v hi lo (j + 1) a b hv (by omega) hT hW)
  have HL := Lib.hid (fun w => left_at w (v / 2 ^ (j + 1)) a b (j + 1) c d hl (by omega) hW hS)
  rw [show ((j + 1 : Nat) : Int) = (j : Int) + 1 from rfl] at HR HL
  have HQ := Lib.hid (fun w => right_at w v hi lo j e f hv (by omega) hT hQ)
  have hl2 : v / 2 ^ j < 340282366920938463463374607431768211456 := Nat.lt_of_le_of_lt (Nat.div_le_self _ _) hv
  have HM := Lib.hid (fun w => left_at w (v / 2 ^ j) e f j g h hl2 (by omega) hQ hM)
  have EQ2 := Lib.hid (eqlN g h hi lo)
  rw [ht] at EQ2
  have hl3 : v / 2 ^ (j + 1) < 340282366920938463463374607431768211455 := by
    have h1 : v / 2 ^ (j + 1) ≤ v / 2 := by rw [Nat.pow_succ, Nat.mul_comm, ← Nat.div_div_eq_div_mul]; exact Nat.div_le_self _ _
    omega
  have HX := Lib.hid (fun w => next_at w (v / 2 ^ (j + 1)) a b r s hl3 hW hN)
  clear hq hT hW hS hQ hl hv hl2 hM ht hl3 hN
  go_enter Tryd.func82, Tryd.ntmps82
  go_wp2_with fail
  refine (HR.out _).mono ?_
  rintro e w1 ⟨rfl, hb1⟩
  have hz1 : w.heap.size + 2 ≤ w1.heap.size := by have := hb1.size; simpa using this
  have N1 : Blk w1 w.heap.size (.int .u64 (hi : Int)) (.int .u64 (lo : Int)) := ((Blk.new w _ _ 81).alloc _).below hb1
  have R1 : Blk w1 (w.heap.size + 1) (.int .u64 0) (.int .u64 0) := (by simpa using Blk.new (w.alloc (.cells #[.int .u64 (hi : Int), .int .u64 (lo : Int)] 81)) (.int .u64 0) (.int .u64 0) 81 : Blk _ (w.heap.size + 1) _ _).below hb1
  have HB1 := Lib.hid (((Below.refl w.heap.size w).alloc (Nat.le_refl _) _).alloc (by simp) _ |>.trans (hb1.mono (by simp; omega)))
  obtain ⟨_, n0, n1, _, _⟩ := id N1
  have HN1 := Lib.hid N1
  have HR1 := Lib.hid R1
  clear hb1 N1 R1
  go_wp2_with fail
  go_region_held3 (fun w' => w'.cell? ⟨w.heap.size, 0, none⟩ = some (.int .u64 (hi : Int)) ∧ w'.cell? ⟨w.heap.size, 1, none⟩ = some (.int .u64 (lo : Int)) ∧ w'.cell? ⟨w1.heap.size, 0, none⟩ = some (.int .u64 (a : Int)) ∧ w'.cell? ⟨w1.heap.size, 1, none⟩ = some (.int .u64 (b : Int)))
    (go_keep)
    (first
      | ((with_reducible refine (HL.out _).mono ?_); rintro e w2 ⟨rfl, hb2⟩; have hz2 : w1.heap.size + 1 ≤ w2.heap.size := (by have := hb2.size; simpa using this); have HN2 := Lib.hid (((HN1.out.alloc _).drew).below hb2); have HR2 := Lib.hid (((HR1.out.alloc _).drew).below hb2); have HW2 := Lib.hid (((Blk.new w1 (.int .u64 (a : Int)) (.int .u64 (b : Int)) 81).drew).below hb2); have HB2 := Lib.hid (HB1.out.trans ((((Below.refl w1.heap.size w1).alloc (Nat.le_refl _) _).drew.trans (hb2.mono (by simp))).mono (by omega))); obtain ⟨_, m0, m1, _, _⟩ := id HN2.out; obtain ⟨_, m2, m3, _, _⟩ := id HW2.out; clear hb2))
  go_wp2_with fail
  refine (HQ.out _).mono ?_
  rintro e w3 ⟨rfl, hb3⟩
  have hz3 := hb3.size
  have HN3 := Lib.hid (HN2.out.below hb3)
  have HR3 := Lib.hid (HR2.out.below hb3)
  have HW3 := Lib.hid (HW2.out.below hb3)
  have HB3 := Lib.hid (HB2.out.trans (hb3.mono (by omega)))
  obtain ⟨_, k0, k1, _, _⟩ := id HN3.out
  obtain ⟨_, k2, k3, _, _⟩ := id HW3.out
  clear n0 n1 m0 m1 m2 m3 hb3 EQ1
  go_wp2_with fail
  have EQ3 := EQ2.out
  go_region_held3 (fun w' => w'.cell? ⟨w.heap.size, 0, none⟩ = some (.int .u64 (hi : Int)) ∧ w'.cell? ⟨w.heap.size, 1, none⟩ = some (.int .u64 (lo : Int)) ∧ w'.cell? ⟨w3.heap.size, 0, none⟩ = some (.int .u64 (e : Int)) ∧ w'.cell? ⟨w3.heap.size, 1, none⟩ = some (.int .u64 (f : Int)))
    (go_keep)
    (first
      | ((with_reducible refine (HM.out _).mono ?_); rintro e w4 ⟨rfl, hb4⟩; have hz4 : w3.heap.size + 1 ≤ w4.heap.size := (by have := hb4.size; simpa using this); have HN4 := Lib.hid (((HN3.out.alloc _).drew).below hb4); have HR4 := Lib.hid (((HR3.out.alloc _).drew).below hb4); have HW4 := Lib.hid (((HW3.out.alloc _).drew).below hb4); have HL4 := Lib.hid (((Blk.new w3 (.int .u64 (e : Int)) (.int .u64 (f : Int)) 81).drew).below hb4); have HB4 := Lib.hid (HB3.out.trans ((((Below.refl w3.heap.size w3).alloc (Nat.le_refl _) _).drew.trans (hb4.mono (by simp))).mono (by omega))); obtain ⟨_, s0, s1, _, _⟩ := id HN4.out; obtain ⟨_, s2, s3, _, _⟩ := id HW4.out; obtain ⟨_, s4, s5, _, _⟩ := id HL4.out; clear hb4))
  obtain ⟨_, p0, p1, p2, p3⟩ := id HR4.out
  go_wp2_with fail
  refine (HX.out _).mono ?_
  rintro e w5 ⟨rfl, hb5⟩
  have HR5 := Lib.hid (HR4.out.below hb5)
  have HB5 := Lib.hid (HB4.out.trans (hb5.mono (by have := HB4.out.size; omega)))
  clear hb5
  obtain ⟨_, p0, p1, p2, p3⟩ := id HR5.out
  obtain ⟨u0, u1⟩ := HR5.out.put (.int .u64 (r : Int)) (.int .u64 (s : Int))
  go_wp2
  exact bodyPost_ret (v := .agg #[.int .u64 (r : Int), .int .u64 (s : Int)]) (by simp [results, Tryd.results82, go_sem, u0, u1]) rfl ⟨rfl, (HB5.out.setCell (by simp) _).setCell (by simp) _⟩

theorem Two.lt {x a b : Nat} (h : Two x a b) : b < 18446744073709551616 := by unfold Two at h; omega
theorem bit_t {x a b : Nat} (h : Two x a b) (hx : x % 2 = 1) : (Go.bits BinOp.and IntKind.u64 (b : Int) 1 == 1) = true := by
  rw [and1 h.lt, beq_iff_eq]
  unfold Two at h; omega
theorem bit_f {x a b : Nat} (h : Two x a b) (hx : x % 2 = 0) : (Go.bits BinOp.and IntKind.u64 (b : Int) 1 == 1) = false := by
  rw [and1 h.lt, beq_eq_false_iff_ne]
  unfold Two at h; omega
theorem shl2_back {v k : Nat} (hv : v < 340282366920938463463374607431768211456) : shl2 (v / 2 ^ k) k = v / 2 ^ k * 2 ^ k := by
  unfold shl2
  exact Nat.mod_eq_of_lt (Nat.lt_of_le_of_lt (Nat.div_mul_le_self _ _) hv)
theorem back_eq {v k hi lo c d : Nat} (hv : v < 340282366920938463463374607431768211456) (h : Two v hi lo) (h' : Two (shl2 (v / 2 ^ k) k) c d) : decide (c = hi ∧ d = lo) = decide (v % 2 ^ k = 0) := by
  rw [shl2_back hv] at h'
  have e := Nat.div_add_mod v (2 ^ k)
  rw [Nat.mul_comm] at e
  apply decide_eq_decide.2
  constructor
  · rintro ⟨e1, e2⟩
    have := Two.eq h h' e1.symm e2.symm
    omega
  · intro h0
    have e3 : v / 2 ^ k * 2 ^ k = v := by omega
    rw [e3] at h'
    exact ⟨h'.1.symm.trans h.1, h'.2.symm.trans h.2⟩

set_option maxHeartbeats 1600000 in
theorem shrink_any (w : World) (v j how : Nat) (hv : v < 340282366920938463463374607431768211456) (hk : j < 4096) (hh : how ≤ 2) :
    Calls Tryd.prog 82 #[W2 v, .int .u64 ((j : Int) + 1), .int .i64 (how : Int)] w (W2End w (roundV v (2 ^ (j + 1)) how)) := by
  obtain ⟨hi, lo, hT⟩ := Two.of v
  obtain ⟨a, b, hW⟩ := Two.of (v / 2 ^ (j + 1))
  obtain ⟨c, d, hS⟩ := Two.of (shl2 (v / 2 ^ (j + 1)) (j + 1))
  obtain ⟨e, f, hQ⟩ := Two.of (v / 2 ^ j)
  obtain ⟨g, h, hM⟩ := Two.of (shl2 (v / 2 ^ j) j)
  obtain ⟨r, s, hN⟩ := Two.of (v / 2 ^ (j + 1) + 1)
  have hq := back_eq hv hT hS
  have ht := back_eq hv hT hM
  have em : v % 2 ^ (j + 1) = v % 2 ^ j + 2 ^ j * (v / 2 ^ j % 2) := by rw [Nat.pow_succ, Nat.mod_mul]
  have ep : 2 ^ (j + 1) = 2 ^ j + 2 ^ j := by rw [Nat.pow_succ]; omega
  have hl : v % 2 ^ j < 2 ^ j := Nat.mod_lt _ (pow_pos2 j)
  rw [W2_of hT.1 hT.2]
  have stay : ¬ (how = 1 ∧ 0 < v % 2 ^ (j + 1) ∨ how = 2 ∧ (2 ^ (j + 1) < v % 2 ^ (j + 1) + v % 2 ^ (j + 1) ∨ v % 2 ^ (j + 1) + v % 2 ^ (j + 1) = 2 ^ (j + 1) ∧ v / 2 ^ (j + 1) % 2 = 1)) → roundV v (2 ^ (j + 1)) how = v / 2 ^ (j + 1) := fun x => by
    unfold roundV; rw [upB_false x]; rfl
  have up : (how = 1 ∧ 0 < v % 2 ^ (j + 1) ∨ how = 2 ∧ (2 ^ (j + 1) < v % 2 ^ (j + 1) + v % 2 ^ (j + 1) ∨ v % 2 ^ (j + 1) + v % 2 ^ (j + 1) = 2 ^ (j + 1) ∧ v / 2 ^ (j + 1) % 2 = 1)) → roundV v (2 ^ (j + 1)) how = v / 2 ^ (j + 1) + 1 := fun x => by
    unfold roundV; rw [upB_true x]; rfl
  by_cases h0 : v % 2 ^ (j + 1) = 0
  · rw [decide_eq_true h0] at hq
    rw [stay (by omega)]
    exact (shrink_whole w v j how hi lo a b c d hv hk hT hW hS hq).mono fun _ _ => R2.to hW
  · rw [decide_eq_false h0] at hq
    rcases Nat.mod_two_eq_zero_or_one (v / 2 ^ j) with hf | hf
    · rw [hf, Nat.mul_zero] at em
      have qf := bit_f hQ hf
      have hhow : how = 0 ∨ how = 1 ∨ how = 2 := by omega
      rcases hhow with rfl | rfl | rfl
      · rw [stay (by omega)]
        exact (shrink_f0 w v j 0 hi lo a b c d e f hv hk hT hW hS hq hQ qf rfl rfl).mono fun _ _ => R2.to hW
      · rw [up (by omega)]
        exact (shrink_f1 w v j 1 hi lo a b c d e f r s hv hk hT hW hS hq hQ qf rfl hN).mono fun _ _ => R2.to hN
      · rw [stay (by omega)]
        exact (shrink_f2 w v j 2 hi lo a b c d e f hv hk hT hW hS hq hQ qf rfl rfl).mono fun _ _ => R2.to hW
    · rw [hf, Nat.mul_one] at em
      have qf := bit_t hQ hf
      have hhow : how = 0 ∨ how = 1 ∨ how = 2 := by omega
      by_cases h1 : v % 2 ^ j = 0
      · rw [decide_eq_true h1] at ht
        rcases hhow with rfl | rfl | rfl
        · rw [stay (by omega)]
          exact (shrink_t0 w v j 0 hi lo a b c d e f g h hv hk hT hW hS hq hQ qf hM ht rfl rfl).mono fun _ _ => R2.to hW
        · rw [up (by omega)]
          exact (shrink_t1 w v j 1 hi lo a b c d e f g h r s hv hk hT hW hS hq hQ qf hM ht rfl hN).mono fun _ _ => R2.to hN
        · rcases Nat.mod_two_eq_zero_or_one (v / 2 ^ (j + 1)) with hb | hb
          · rw [stay (by omega)]
            exact (shrink_t2e w v j 2 hi lo a b c d e f g h hv hk hT hW hS hq hQ qf hM ht rfl rfl (bit_f hW hb)).mono fun _ _ => R2.to hW
          · rw [up (by omega)]
            exact (shrink_t2o w v j 2 hi lo a b c d e f g h r s hv hk hT hW hS hq hQ qf hM ht rfl rfl (bit_t hW hb) hN).mono fun _ _ => R2.to hN
      · rw [decide_eq_false h1] at ht
        rcases hhow with rfl | rfl | rfl
        · rw [stay (by omega)]
          exact (shrink_u0 w v j 0 hi lo a b c d e f g h hv hk hT hW hS hq hQ qf hM ht rfl rfl).mono fun _ _ => R2.to hW
        · rw [up (by omega)]
          exact (shrink_u1 w v j 1 hi lo a b c d e f g h r s hv hk hT hW hS hq hQ qf hM ht rfl hN).mono fun _ _ => R2.to hN
        · rcases Nat.mod_two_eq_zero_or_one (v / 2 ^ (j + 1)) with hb | hb
          · rw [up (by omega)]
            exact (shrink_u2e w v j 2 hi lo a b c d e f g h r s hv hk hT hW hS hq hQ qf hM ht rfl rfl (bit_f hW hb) hN).mono fun _ _ => R2.to hN
          · rw [up (by omega)]
            exact (shrink_u2o w v j 2 hi lo a b c d e f g h r s hv hk hT hW hS hq hQ qf hM ht rfl rfl (bit_t hW hb) hN).mono fun _ _ => R2.to hN
end Go.Proofs.YtafboimlchjnaaaDoor
