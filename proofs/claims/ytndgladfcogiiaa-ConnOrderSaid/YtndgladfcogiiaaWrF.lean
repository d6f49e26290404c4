/- Contract: DocReply. -/
import Derived.Test.YtndgladfcogiiaaWrE
namespace Go.Proofs.Ytndgladfcogiiaa
open Go.RowKit
set_option maxRecDepth 100000
set_option linter.unusedVariables false
theorem rform_b (w : World) (p : Int) (b : Bool) (h : tkB p = b) : Calls Try.prog 95 #[.int .i64 p] w fun e w' => e = .returned (.bool b) ∧ w = w' := by subst h; exact rform_any w p
set_option maxHeartbeats 1600000 in
theorem docReply_lo (w : World) (r : RpV) (h : r.E < 0) : Calls Try.prog 51 #[r.val] w (RpE w r) := by
  have B0 : Below w.heap.size w (w.alloc (.cells #[.int .i64 r.E, .bool r.G, .int .i64 r.a, .int .i64 r.b, .int .i64 r.c, .int .i64 r.d] 82)) := (Below.refl _ _).alloc (Nat.le_refl _) _
  have K0 : BlkL (w.alloc (.cells #[.int .i64 r.E, .bool r.G, .int .i64 r.a, .int .i64 r.b, .int .i64 r.c, .int .i64 r.d] 82)) w.heap.size r.cells := BlkL.new w _ _
  have HB0 := Lib.hid B0
  have HK0 := Lib.hid K0
  have hlt : w.heap.size < (w.alloc (.cells #[.int .i64 r.E, .bool r.G, .int .i64 r.a, .int .i64 r.b, .int .i64 r.c, .int .i64 r.d] 82)).heap.size := K0.lt
  have c0 := K0.cell 0 _ rfl
  have c1 := K0.cell 1 _ rfl
  have c2 := K0.cell 2 _ rfl
  have c3 := K0.cell 3 _ rfl
  have c4 := K0.cell 4 _ rfl
  have c5 := K0.cell 5 _ rfl
  clear B0 K0
  have hok : r.ok = false := by unfold RpV.ok RpV.eB; rw [decide_eq_false (by omega : ¬ 0 ≤ r.E)]; simp
  have HK := Lib.hid hok
  have d0 : decide (r.E < 0) = true := decide_eq_true h
  clear hok
  obtain ⟨E, G, a, b, c, d⟩ := r
  dsimp only at *
  go_enter Try.func51, Try.ntmps51
  go_wp2
  go_ret2
  exact rpE_bad HK.out HB0.out
set_option maxHeartbeats 1600000 in
theorem docReply_hi (w : World) (r : RpV) (h : 16 < r.E) : Calls Try.prog 51 #[r.val] w (RpE w r) := by
  have B0 : Below w.heap.size w (w.alloc (.cells #[.int .i64 r.E, .bool r.G, .int .i64 r.a, .int .i64 r.b, .int .i64 r.c, .int .i64 r.d] 82)) := (Below.refl _ _).alloc (Nat.le_refl _) _
  have K0 : BlkL (w.alloc (.cells #[.int .i64 r.E, .bool r.G, .int .i64 r.a, .int .i64 r.b, .int .i64 r.c, .int .i64 r.d] 82)) w.heap.size r.cells := BlkL.new w _ _
  have HB0 := Lib.hid B0
  have HK0 := Lib.hid K0
  have hlt : w.heap.size < (w.alloc (.cells #[.int .i64 r.E, .bool r.G, .int .i64 r.a, .int .i64 r.b, .int .i64 r.c, .int .i64 r.d] 82)).heap.size := K0.lt
  have c0 := K0.cell 0 _ rfl
  have c1 := K0.cell 1 _ rfl
  have c2 := K0.cell 2 _ rfl
  have c3 := K0.cell 3 _ rfl
  have c4 := K0.cell 4 _ rfl
  have c5 := K0.cell 5 _ rfl
  clear B0 K0
  have hok : r.ok = false := by unfold RpV.ok RpV.eB; rw [decide_eq_false (by omega : ¬ r.E ≤ 16)]; simp
  have HK := Lib.hid hok
  have d0 : decide (r.E < 0) = false := decide_eq_false (by omega)
  have d1 : decide (16 < r.E) = true := decide_eq_true h
  clear hok
  obtain ⟨E, G, a, b, c, d⟩ := r
  dsimp only at *
  go_enter Try.func51, Try.ntmps51
  go_wp2
  go_ret2
  exact rpE_bad HK.out HB0.out
set_option maxHeartbeats 1600000 in
theorem docReply_no0 (w : World) (r : RpV) (h0 : 0 ≤ r.E) (h1 : r.E ≤ 16) (t0 : tkB r.a = false) : Calls Try.prog 51 #[r.val] w (RpE w r) := by
  have B0 : Below w.heap.size w (w.alloc (.cells #[.int .i64 r.E, .bool r.G, .int .i64 r.a, .int .i64 r.b, .int .i64 r.c, .int .i64 r.d] 82)) := (Below.refl _ _).alloc (Nat.le_refl _) _
  have K0 : BlkL (w.alloc (.cells #[.int .i64 r.E, .bool r.G, .int .i64 r.a, .int .i64 r.b, .int .i64 r.c, .int .i64 r.d] 82)) w.heap.size r.cells := BlkL.new w _ _
  have HB0 := Lib.hid B0
  have HK0 := Lib.hid K0
  have hlt : w.heap.size < (w.alloc (.cells #[.int .i64 r.E, .bool r.G, .int .i64 r.a, .int .i64 r.b, .int .i64 r.c, .int .i64 r.d] 82)).heap.size := K0.lt
  have c0 := K0.cell 0 _ rfl
  have c1 := K0.cell 1 _ rfl
  have c2 := K0.cell 2 _ rfl
  have c3 := K0.cell 3 _ rfl
  have c4 := K0.cell 4 _ rfl
  have c5 := K0.cell 5 _ rfl
  clear B0 K0
  obtain ⟨n, hn⟩ : ∃ n : Nat, r.E = (n : Int) := ⟨r.E.toNat, (Int.toNat_of_nonneg h0).symm⟩
  have heB : r.eB = true := by unfold RpV.eB; simp [h0, h1]
  have hok : r.ok = false := by unfold RpV.ok; rw [t0]; simp
  have HT0 := Lib.hid t0
  have HK := Lib.hid hok
  clear hok heB t0
  obtain ⟨E, G, a, b, c, d⟩ := r
  dsimp only at *
  subst hn
  have d0 : decide ((n : Int) < 0) = false := decide_eq_false (by omega)
  have d1 : decide ((16 : Int) < (n : Int)) = false := decide_eq_false (by omega)
  have ew : IntKind.u8.wrap (n : Int) = (n : Int) := IntWalk.u8_in _ (by omega)
  have HC0 : Hid (Calls Try.prog 95 #[.int .i64 a] (w.alloc (.cells #[.int .i64 (n : Int), .bool G, .int .i64 a, .int .i64 b, .int .i64 c, .int .i64 d] 82)) fun e w' => e = .returned (.bool false) ∧ (w.alloc (.cells #[.int .i64 (n : Int), .bool G, .int .i64 a, .int .i64 b, .int .i64 c, .int .i64 d] 82)) = w') := Lib.hid (rform_b _ _ _ HT0.out)
  go_enter Try.func51, Try.ntmps51
  go_wp2_with fail
  with_reducible refine (HC0.out).mono ?_
  rintro e w' ⟨rfl, rfl⟩
  go_wp2
  go_ret2
  exact rpE_bad HK.out HB0.out
set_option maxHeartbeats 1600000 in
theorem docReply_no1 (w : World) (r : RpV) (h0 : 0 ≤ r.E) (h1 : r.E ≤ 16) (t0 : tkB r.a = true) (t1 : tkB r.b = false) : Calls Try.prog 51 #[r.val] w (RpE w r) := by
  have B0 : Below w.heap.size w (w.alloc (.cells #[.int .i64 r.E, .bool r.G, .int .i64 r.a, .int .i64 r.b, .int .i64 r.c, .int .i64 r.d] 82)) := (Below.refl _ _).alloc (Nat.le_refl _) _
  have K0 : BlkL (w.alloc (.cells #[.int .i64 r.E, .bool r.G, .int .i64 r.a, .int .i64 r.b, .int .i64 r.c, .int .i64 r.d] 82)) w.heap.size r.cells := BlkL.new w _ _
  have HB0 := Lib.hid B0
  have HK0 := Lib.hid K0
  have hlt : w.heap.size < (w.alloc (.cells #[.int .i64 r.E, .bool r.G, .int .i64 r.a, .int .i64 r.b, .int .i64 r.c, .int .i64 r.d] 82)).heap.size := K0.lt
  have c0 := K0.cell 0 _ rfl
  have c1 := K0.cell 1 _ rfl
  have c2 := K0.cell 2 _ rfl
  have c3 := K0.cell 3 _ rfl
  have c4 := K0.cell 4 _ rfl
  have c5 := K0.cell 5 _ rfl
  clear B0 K0
  obtain ⟨n, hn⟩ : ∃ n : Nat, r.E = (n : Int) := ⟨r.E.toNat, (Int.toNat_of_nonneg h0).symm⟩
  have heB : r.eB = true := by unfold RpV.eB; simp [h0, h1]
  have hok : r.ok = false := by unfold RpV.ok; rw [t1]; simp
  have HT0 := Lib.hid t0
  have HT1 := Lib.hid t1
  have HK := Lib.hid hok
  clear hok heB t0 t1
  obtain ⟨E, G, a, b, c, d⟩ := r
  dsimp only at *
  subst hn
  have d0 : decide ((n : Int) < 0) = false := decide_eq_false (by omega)
  have d1 : decide ((16 : Int) < (n : Int)) = false := decide_eq_false (by omega)
  have ew : IntKind.u8.wrap (n : Int) = (n : Int) := IntWalk.u8_in _ (by omega)
  have HC0 : Hid (Calls Try.prog 95 #[.int .i64 a] (w.alloc (.cells #[.int .i64 (n : Int), .bool G, .int .i64 a, .int .i64 b, .int .i64 c, .int .i64 d] 82)) fun e w' => e = .returned (.bool true) ∧ (w.alloc (.cells #[.int .i64 (n : Int), .bool G, .int .i64 a, .int .i64 b, .int .i64 c, .int .i64 d] 82)) = w') := Lib.hid (rform_b _ _ _ HT0.out)
  have HC1 : Hid (Calls Try.prog 95 #[.int .i64 b] (w.alloc (.cells #[.int .i64 (n : Int), .bool G, .int .i64 a, .int .i64 b, .int .i64 c, .int .i64 d] 82)) fun e w' => e = .returned (.bool false) ∧ (w.alloc (.cells #[.int .i64 (n : Int), .bool G, .int .i64 a, .int .i64 b, .int .i64 c, .int .i64 d] 82)) = w') := Lib.hid (rform_b _ _ _ HT1.out)
  go_enter Try.func51, Try.ntmps51
  go_wp2_with fail
  with_reducible refine (HC0.out).mono ?_
  rintro e w' ⟨rfl, rfl⟩
  go_wp2_with fail
  with_reducible refine (HC1.out).mono ?_
  rintro e w' ⟨rfl, rfl⟩
  go_wp2
  go_ret2
  exact rpE_bad HK.out HB0.out
set_option maxHeartbeats 1600000 in
theorem docReply_no2 (w : World) (r : RpV) (h0 : 0 ≤ r.E) (h1 : r.E ≤ 16) (t0 : tkB r.a = true) (t1 : tkB r.b = true) (t2 : tkB r.c = false) : Calls Try.prog 51 #[r.val] w (RpE w r) := by
  have B0 : Below w.heap.size w (w.alloc (.cells #[.int .i64 r.E, .bool r.G, .int .i64 r.a, .int .i64 r.b, .int .i64 r.c, .int .i64 r.d] 82)) := (Below.refl _ _).alloc (Nat.le_refl _) _
  have K0 : BlkL (w.alloc (.cells #[.int .i64 r.E, .bool r.G, .int .i64 r.a, .int .i64 r.b, .int .i64 r.c, .int .i64 r.d] 82)) w.heap.size r.cells := BlkL.new w _ _
  have HB0 := Lib.hid B0
  have HK0 := Lib.hid K0
  have hlt : w.heap.size < (w.alloc (.cells #[.int .i64 r.E, .bool r.G, .int .i64 r.a, .int .i64 r.b, .int .i64 r.c, .int .i64 r.d] 82)).heap.size := K0.lt
  have c0 := K0.cell 0 _ rfl
  have c1 := K0.cell 1 _ rfl
  have c2 := K0.cell 2 _ rfl
  have c3 := K0.cell 3 _ rfl
  have c4 := K0.cell 4 _ rfl
  have c5 := K0.cell 5 _ rfl
  clear B0 K0
  obtain ⟨n, hn⟩ : ∃ n : Nat, r.E = (n : Int) := ⟨r.E.toNat, (Int.toNat_of_nonneg h0).symm⟩
  have heB : r.eB = true := by unfold RpV.eB; simp [h0, h1]
  have hok : r.ok = false := by unfold RpV.ok; rw [t2]; simp
  have HT0 := Lib.hid t0
  have HT1 := Lib.hid t1
  have HT2 := Lib.hid t2
  have HK := Lib.hid hok
  clear hok heB t0 t1 t2
  obtain ⟨E, G, a, b, c, d⟩ := r
  dsimp only at *
  subst hn
  have d0 : decide ((n : Int) < 0) = false := decide_eq_false (by omega)
  have d1 : decide ((16 : Int) < (n : Int)) = false := decide_eq_false (by omega)
  have ew : IntKind.u8.wrap (n : Int) = (n : Int) := IntWalk.u8_in _ (by omega)
  have HC0 : Hid (Calls Try.prog 95 #[.int .i64 a] (w.alloc (.cells #[.int .i64 (n : Int), .bool G, .int .i64 a, .int .i64 b, .int .i64 c, .int .i64 d] 82)) fun e w' => e = .returned (.bool true) ∧ (w.alloc (.cells #[.int .i64 (n : Int), .bool G, .int .i64 a, .int .i64 b, .int .i64 c, .int .i64 d] 82)) = w') := Lib.hid (rform_b _ _ _ HT0.out)
  have HC1 : Hid (Calls Try.prog 95 #[.int .i64 b] (w.alloc (.cells #[.int .i64 (n : Int), .bool G, .int .i64 a, .int .i64 b, .int .i64 c, .int .i64 d] 82)) fun e w' => e = .returned (.bool true) ∧ (w.alloc (.cells #[.int .i64 (n : Int), .bool G, .int .i64 a, .int .i64 b, .int .i64 c, .int .i64 d] 82)) = w') := Lib.hid (rform_b _ _ _ HT1.out)
  have HC2 : Hid (Calls Try.prog 95 #[.int .i64 c] (w.alloc (.cells #[.int .i64 (n : Int), .bool G, .int .i64 a, .int .i64 b, .int .i64 c, .int .i64 d] 82)) fun e w' => e = .returned (.bool false) ∧ (w.alloc (.cells #[.int .i64 (n : Int), .bool G, .int .i64 a, .int .i64 b, .int .i64 c, .int .i64 d] 82)) = w') := Lib.hid (rform_b _ _ _ HT2.out)
  go_enter Try.func51, Try.ntmps51
  go_wp2_with fail
  with_reducible refine (HC0.out).mono ?_
  rintro e w' ⟨rfl, rfl⟩
  go_wp2_with fail
  with_reducible refine (HC1.out).mono ?_
  rintro e w' ⟨rfl, rfl⟩
  go_wp2_with fail
  with_reducible refine (HC2.out).mono ?_
  rintro e w' ⟨rfl, rfl⟩
  go_wp2
  go_ret2
  exact rpE_bad HK.out HB0.out
set_option maxHeartbeats 1600000 in
theorem docReply_no3 (w : World) (r : RpV) (h0 : 0 ≤ r.E) (h1 : r.E ≤ 16) (t0 : tkB r.a = true) (t1 : tkB r.b = true) (t2 : tkB r.c = true) (t3 : tkB r.d = false) : Calls Try.prog 51 #[r.val] w (RpE w r) := by
  have B0 : Below w.heap.size w (w.alloc (.cells #[.int .i64 r.E, .bool r.G, .int .i64 r.a, .int .i64 r.b, .int .i64 r.c, .int .i64 r.d] 82)) := (Below.refl _ _).alloc (Nat.le_refl _) _
  have K0 : BlkL (w.alloc (.cells #[.int .i64 r.E, .bool r.G, .int .i64 r.a, .int .i64 r.b, .int .i64 r.c, .int .i64 r.d] 82)) w.heap.size r.cells := BlkL.new w _ _
  have HB0 := Lib.hid B0
  have HK0 := Lib.hid K0
  have hlt : w.heap.size < (w.alloc (.cells #[.int .i64 r.E, .bool r.G, .int .i64 r.a, .int .i64 r.b, .int .i64 r.c, .int .i64 r.d] 82)).heap.size := K0.lt
  have c0 := K0.cell 0 _ rfl
  have c1 := K0.cell 1 _ rfl
  have c2 := K0.cell 2 _ rfl
  have c3 := K0.cell 3 _ rfl
  have c4 := K0.cell 4 _ rfl
  have c5 := K0.cell 5 _ rfl
  clear B0 K0
  obtain ⟨n, hn⟩ : ∃ n : Nat, r.E = (n : Int) := ⟨r.E.toNat, (Int.toNat_of_nonneg h0).symm⟩
  have heB : r.eB = true := by unfold RpV.eB; simp [h0, h1]
  have hok : r.ok = false := by unfold RpV.ok; rw [t3]; simp
  have HT0 := Lib.hid t0
  have HT1 := Lib.hid t1
  have HT2 := Lib.hid t2
  have HT3 := Lib.hid t3
  have HK := Lib.hid hok
  clear hok heB t0 t1 t2 t3
  obtain ⟨E, G, a, b, c, d⟩ := r
  dsimp only at *
  subst hn
  have d0 : decide ((n : Int) < 0) = false := decide_eq_false (by omega)
  have d1 : decide ((16 : Int) < (n : Int)) = false := decide_eq_false (by omega)
  have ew : IntKind.u8.wrap (n : Int) = (n : Int) := IntWalk.u8_in _ (by omega)
  have HC0 : Hid (Calls Try.prog 95 #[.int .i64 a] (w.alloc (.cells #[.int .i64 (n : Int), .bool G, .int .i64 a, .int .i64 b, .int .i64 c, .int .i64 d] 82)) fun e w' => e = .returned (.bool true) ∧ (w.alloc (.cells #[.int .i64 (n : Int), .bool G, .int .i64 a, .int .i64 b, .int .i64 c, .int .i64 d] 82)) = w') := Lib.hid (rform_b _ _ _ HT0.out)
  have HC1 : Hid (Calls Try.prog 95 #[.int .i64 b] (w.alloc (.cells #[.int .i64 (n : Int), .bool G, .int .i64 a, .int .i64 b, .int .i64 c, .int .i64 d] 82)) fun e w' => e = .returned (.bool true) ∧ (w.alloc (.cells #[.int .i64 (n : Int), .bool G, .int .i64 a, .int .i64 b, .int .i64 c, .int .i64 d] 82)) = w') := Lib.hid (rform_b _ _ _ HT1.out)
  have HC2 : Hid (Calls Try.prog 95 #[.int .i64 c] (w.alloc (.cells #[.int .i64 (n : Int), .bool G, .int .i64 a, .int .i64 b, .int .i64 c, .int .i64 d] 82)) fun e w' => e = .returned (.bool true) ∧ (w.alloc (.cells #[.int .i64 (n : Int), .bool G, .int .i64 a, .int .i64 b, .int .i64 c, .int .i64 d] 82)) = w') := Lib.hid (rform_b _ _ _ HT2.out)
  have HC3 : Hid (Calls Try.prog 95 #[.int .i64 d] (w.alloc (.cells #[.int .i64 (n : Int), .bool G, .int .i64 a, .int .i64 b, .int .i64 c, .int .i64 d] 82)) fun e w' => e = .returned (.bool false) ∧ (w.alloc (.cells #[.int .i64 (n : Int), .bool G, .int .i64 a, .int .i64 b, .int .i64 c, .int .i64 d] 82)) = w') := Lib.hid (rform_b _ _ _ HT3.out)
  go_enter Try.func51, Try.ntmps51
  go_wp2_with fail
  with_reducible refine (HC0.out).mono ?_
  rintro e w' ⟨rfl, rfl⟩
  go_wp2_with fail
  with_reducible refine (HC1.out).mono ?_
  rintro e w' ⟨rfl, rfl⟩
  go_wp2_with fail
  with_reducible refine (HC2.out).mono ?_
  rintro e w' ⟨rfl, rfl⟩
  go_wp2_with fail
  with_reducible refine (HC3.out).mono ?_
  rintro e w' ⟨rfl, rfl⟩
  go_wp2
  go_ret2
  exact rpE_bad HK.out HB0.out
set_option maxHeartbeats 3200000 in
theorem docReply_ok0 (w : World) (r : RpV) (h0 : 0 ≤ r.E) (h1 : r.E ≤ 16) (hg : r.G = false) (t0 : tkB r.a = true) (t1 : tkB r.b = true) (t2 : tkB r.c = true) (t3 : tkB r.d = true) : Calls Try.prog 51 #[r.val] w (RpE w r) := by
  have B0 : Below w.heap.size w (w.alloc (.cells #[.int .i64 r.E, .bool r.G, .int .i64 r.a, .int .i64 r.b, .int .i64 r.c, .int .i64 r.d] 82)) := (Below.refl _ _).alloc (Nat.le_refl _) _
  have K0 : BlkL (w.alloc (.cells #[.int .i64 r.E, .bool r.G, .int .i64 r.a, .int .i64 r.b, .int .i64 r.c, .int .i64 r.d] 82)) w.heap.size r.cells := BlkL.new w _ _
  have HB0 := Lib.hid B0
  have HK0 := Lib.hid K0
  have hlt : w.heap.size < (w.alloc (.cells #[.int .i64 r.E, .bool r.G, .int .i64 r.a, .int .i64 r.b, .int .i64 r.c, .int .i64 r.d] 82)).heap.size := K0.lt
  have c0 := K0.cell 0 _ rfl
  have c1 := K0.cell 1 _ rfl
  have c2 := K0.cell 2 _ rfl
  have c3 := K0.cell 3 _ rfl
  have c4 := K0.cell 4 _ rfl
  have c5 := K0.cell 5 _ rfl
  clear B0 K0
  obtain ⟨n, hn⟩ : ∃ n : Nat, r.E = (n : Int) := ⟨r.E.toNat, (Int.toNat_of_nonneg h0).symm⟩
  have heB : r.eB = true := by unfold RpV.eB; simp [h0, h1]
  have hok : r.ok = true := by unfold RpV.ok; rw [heB, t0, t1, t2, t3]; rfl
  have x0 := tkB_true t0
  have x1 := tkB_true t1
  have x2 := tkB_true t2
  have x3 := tkB_true t3
  have HT0 := Lib.hid t0
  have HT1 := Lib.hid t1
  have HT2 := Lib.hid t2
  have HT3 := Lib.hid t3
  have HK := Lib.hid hok
  clear hok heB t0 t1 t2 t3
  obtain ⟨E, G, a, b, c, d⟩ := r
  dsimp only at *
  subst hn
  have d0 : decide ((n : Int) < 0) = false := decide_eq_false (by omega)
  have d1 : decide ((16 : Int) < (n : Int)) = false := decide_eq_false (by omega)
  have ew : IntKind.u8.wrap (n : Int) = (n : Int) := IntWalk.u8_in _ (by omega)
  subst hg
  have HC0 : Hid (Calls Try.prog 95 #[.int .i64 a] (w.alloc (.cells #[.int .i64 (n : Int), .bool false, .int .i64 a, .int .i64 b, .int .i64 c, .int .i64 d] 82)) fun e w' => e = .returned (.bool true) ∧ (w.alloc (.cells #[.int .i64 (n : Int), .bool false, .int .i64 a, .int .i64 b, .int .i64 c, .int .i64 d] 82)) = w') := Lib.hid (rform_b _ _ _ HT0.out)
  have HC1 : Hid (Calls Try.prog 95 #[.int .i64 b] (w.alloc (.cells #[.int .i64 (n : Int), .bool false, .int .i64 a, .int .i64 b, .int .i64 c, .int .i64 d] 82)) fun e w' => e = .returned (.bool true) ∧ (w.alloc (.cells #[.int .i64 (n : Int), .bool false, .int .i64 a, .int .i64 b, .int .i64 c, .int .i64 d] 82)) = w') := Lib.hid (rform_b _ _ _ HT1.out)
  have HC2 : Hid (Calls Try.prog 95 #[.int .i64 c] (w.alloc (.cells #[.int .i64 (n : Int), .bool false, .int .i64 a, .int .i64 b, .int .i64 c, .int .i64 d] 82)) fun e w' => e = .returned (.bool true) ∧ (w.alloc (.cells #[.int .i64 (n : Int), .bool false, .int .i64 a, .int .i64 b, .int .i64 c, .int .i64 d] 82)) = w') := Lib.hid (rform_b _ _ _ HT2.out)
  have HC3 : Hid (Calls Try.prog 95 #[.int .i64 d] (w.alloc (.cells #[.int .i64 (n : Int), .bool false, .int .i64 a, .int .i64 b, .int .i64 c, .int .i64 d] 82)) fun e w' => e = .returned (.bool true) ∧ (w.alloc (.cells #[.int .i64 (n : Int), .bool false, .int .i64 a, .int .i64 b, .int .i64 c, .int .i64 d] 82)) = w') := Lib.hid (rform_b _ _ _ HT3.out)
  have HO : Hid (OwnB ((w.alloc (.cells #[.int .i64 (n : Int), .bool false, .int .i64 a, .int .i64 b, .int .i64 c, .int .i64 d] 82)).alloc (.cells #[.int .u8 (n : Int), .int .u8 0] 5)) (w.heap.size + 1) (some ⟨w.heap.size + 1, 0, none⟩) 2 2 [n, 0]) := by
    have := OwnB.lit (w.alloc (.cells #[.int .i64 (n : Int), .bool false, .int .i64 a, .int .i64 b, .int .i64 c, .int .i64 d] 82)) [n, 0] (by simp; omega) rfl (by simp [maxLen])
    rw [World.size_alloc] at this
    exact Lib.hid this
  have HL1 := Lib.hid (HK0.out.alloc (.cells #[.int .u8 (n : Int), .int .u8 0] 5))
  have HBL := Lib.hid ((Below.refl (w.heap.size + 1) (w.alloc (.cells #[.int .i64 (n : Int), .bool false, .int .i64 a, .int .i64 b, .int .i64 c, .int .i64 d] 82))).alloc (by simp) (.cells #[.int .u8 (n : Int), .int .u8 0] 5))
  have HS1 : Hid (w.heap.size + 1 ≤ ((w.alloc (.cells #[.int .i64 (n : Int), .bool false, .int .i64 a, .int .i64 b, .int .i64 c, .int .i64 d] 82)).alloc (.cells #[.int .u8 (n : Int), .int .u8 0] 5)).heap.size) := Lib.hid (by simp)
  have eu0 := u64_nat x0.1 x0.2
  obtain ⟨n0, hn0⟩ : ∃ xn : Nat, a.toNat = xn := ⟨_, rfl⟩
  have hl0 : n0 ≤ 4611686018427387903 := by omega
  rw [hn0] at eu0
  have HX0 := Lib.hid hn0
  have eu1 := u64_nat x1.1 x1.2
  obtain ⟨n1, hn1⟩ : ∃ xn : Nat, b.toNat = xn := ⟨_, rfl⟩
  have hl1 : n1 ≤ 4611686018427387903 := by omega
  rw [hn1] at eu1
  have HX1 := Lib.hid hn1
  have eu2 := u64_nat x2.1 x2.2
  obtain ⟨n2, hn2⟩ : ∃ xn : Nat, c.toNat = xn := ⟨_, rfl⟩
  have hl2 : n2 ≤ 4611686018427387903 := by omega
  rw [hn2] at eu2
  have HX2 := Lib.hid hn2
  have eu3 := u64_nat x3.1 x3.2
  obtain ⟨n3, hn3⟩ : ∃ xn : Nat, d.toNat = xn := ⟨_, rfl⟩
  have hl3 : n3 ≤ 4611686018427387903 := by omega
  rw [hn3] at eu3
  have HX3 := Lib.hid hn3
  clear x0 x1 x2 x3 hn0 hn1 hn2 hn3
  go_enter Try.func51, Try.ntmps51
  go_wp2_with fail
  with_reducible refine (HC0.out).mono ?_
  rintro e w' ⟨rfl, rfl⟩
  go_wp2_with fail
  with_reducible refine (HC1.out).mono ?_
  rintro e w' ⟨rfl, rfl⟩
  go_wp2_with fail
  with_reducible refine (HC2.out).mono ?_
  rintro e w' ⟨rfl, rfl⟩
  go_wp2_with fail
  with_reducible refine (HC3.out).mono ?_
  rintro e w' ⟨rfl, rfl⟩
  clear HC0 HC1 HC2 HC3 HT0 HT1 HT2 HT3 hlt
  go_wp2_with fail
  with_reducible refine (word8 _ n0 (by omega)).mono ?_
  rintro e v0 ⟨E0, f0, rfl, ho, hb⟩
  have HW0 := Lib.hid ho.arg
  have HQ0 := Lib.hid (HO.out.below hb)
  have HZ0 : Hid (w.heap.size + 1 ≤ v0.heap.size) := Lib.hid (Nat.le_trans HS1.out hb.size)
  have HP0 := Lib.hid (HBL.out.trans (hb.mono HS1.out))
  clear HO HBL ho hb c0 c1 c2 c3 c4 c5
  go_wp2_with (refine wpList_append_bytes rfl (.tmp 48) (.tmp 52) rfl (w.heap.size + 1) (some ⟨w.heap.size + 1, 0, none⟩) 2 2 _ rfl HQ0.out v0.heap.size E0 8 f0 (Tk.wordV n0 8) rfl HW0.out (by omega) HZ0.out ?_)
  intro A1 d1 w1 ho hb
  have HO1 := Lib.hid ho
  have HBL1 := Lib.hid (HP0.out.trans hb)
  have HS2 : Hid (w.heap.size + 1 ≤ w1.heap.size) := Lib.hid (Nat.le_trans HZ0.out hb.size)
  have hk := HK0.out.keep HBL1.out (by omega)
  have c2 := hk.cell 2 _ rfl
  have c3 := hk.cell 3 _ rfl
  have c4 := hk.cell 4 _ rfl
  have c5 := hk.cell 5 _ rfl
  clear hk ho hb HQ0 HW0 HP0
  go_wp2_with fail
  with_reducible refine (word8 _ n1 (by omega)).mono ?_
  rintro e v1 ⟨E1, f1, rfl, ho, hb⟩
  have HW1 := Lib.hid ho.arg
  have HQ1 := Lib.hid (HO1.out.below hb)
  have HZ1 : Hid (w.heap.size + 1 ≤ v1.heap.size) := Lib.hid (Nat.le_trans HS2.out hb.size)
  have HP1 := Lib.hid (HBL1.out.trans (hb.mono HS2.out))
  clear HO1 HBL1 ho hb c2 c3 c4 c5
  go_wp2_with (refine wpList_append_bytes rfl (.tmp 54) (.tmp 58) rfl (w.heap.size + 1) A1 (2 + 8) d1 _ rfl HQ1.out v1.heap.size E1 8 f1 (Tk.wordV n1 8) rfl HW1.out (by omega) HZ1.out ?_)
  intro A2 d2 w2 ho hb
  have HO2 := Lib.hid ho
  have HBL2 := Lib.hid (HP1.out.trans hb)
  have HS3 : Hid (w.heap.size + 1 ≤ w2.heap.size) := Lib.hid (Nat.le_trans HZ1.out hb.size)
  have hk := HK0.out.keep HBL2.out (by omega)
  have c2 := hk.cell 2 _ rfl
  have c3 := hk.cell 3 _ rfl
  have c4 := hk.cell 4 _ rfl
  have c5 := hk.cell 5 _ rfl
  clear hk ho hb HQ1 HW1 HP1
  go_wp2_with fail
  with_reducible refine (word8 _ n2 (by omega)).mono ?_
  rintro e v2 ⟨E2, f2, rfl, ho, hb⟩
  have HW2 := Lib.hid ho.arg
  have HQ2 := Lib.hid (HO2.out.below hb)
  have HZ2 : Hid (w.heap.size + 1 ≤ v2.heap.size) := Lib.hid (Nat.le_trans HS3.out hb.size)
  have HP2 := Lib.hid (HBL2.out.trans (hb.mono HS3.out))
  clear HO2 HBL2 ho hb c2 c3 c4 c5
  go_wp2_with (refine wpList_append_bytes rfl (.tmp 60) (.tmp 64) rfl (w.heap.size + 1) A2 (2 + 8 + 8) d2 _ rfl HQ2.out v2.heap.size E2 8 f2 (Tk.wordV n2 8) rfl HW2.out (by omega) HZ2.out ?_)
  intro A3 d3 w3 ho hb
  have HO3 := Lib.hid ho
  have HBL3 := Lib.hid (HP2.out.trans hb)
  have HS4 : Hid (w.heap.size + 1 ≤ w3.heap.size) := Lib.hid (Nat.le_trans HZ2.out hb.size)
  have hk := HK0.out.keep HBL3.out (by omega)
  have c2 := hk.cell 2 _ rfl
  have c3 := hk.cell 3 _ rfl
  have c4 := hk.cell 4 _ rfl
  have c5 := hk.cell 5 _ rfl
  clear hk ho hb HQ2 HW2 HP2
  go_wp2_with fail
  with_reducible refine (word8 _ n3 (by omega)).mono ?_
  rintro e v3 ⟨E3, f3, rfl, ho, hb⟩
  have HW3 := Lib.hid ho.arg
  have HQ3 := Lib.hid (HO3.out.below hb)
  have HZ3 : Hid (w.heap.size + 1 ≤ v3.heap.size) := Lib.hid (Nat.le_trans HS4.out hb.size)
  have HP3 := Lib.hid (HBL3.out.trans (hb.mono HS4.out))
  clear HO3 HBL3 ho hb c2 c3 c4 c5
  go_wp2_with (refine wpList_append_bytes rfl (.tmp 66) (.tmp 70) rfl (w.heap.size + 1) A3 (2 + 8 + 8 + 8) d3 _ rfl HQ3.out v3.heap.size E3 8 f3 (Tk.wordV n3 8) rfl HW3.out (by omega) HZ3.out ?_)
  intro A4 d4 w4 ho hb
  have HO4 := Lib.hid ho
  have HBL4 := Lib.hid (HP3.out.trans hb)
  have HS5 : Hid (w.heap.size + 1 ≤ w4.heap.size) := Lib.hid (Nat.le_trans HZ3.out hb.size)
  have hk := HK0.out.keep HBL4.out (by omega)
  have c2 := hk.cell 2 _ rfl
  have c3 := hk.cell 3 _ rfl
  have c4 := hk.cell 4 _ rfl
  have c5 := hk.cell 5 _ rfl
  clear hk ho hb HQ3 HW3 HP3
  go_wp2
  go_ret2
  refine ⟨A4, 2 + 8 + 8 + 8 + 8, d4, by rw [HK.out]; rfl, ?_, (HB0.out.trans (HBL4.out.mono (by omega)))⟩
  rw [HK.out]
  have := HO4.out.arg
  rw [← HX0.out, ← HX1.out, ← HX2.out, ← HX3.out] at this
  exact this
set_option maxHeartbeats 3200000 in
theorem docReply_ok1 (w : World) (r : RpV) (h0 : 0 ≤ r.E) (h1 : r.E ≤ 16) (hg : r.G = true) (t0 : tkB r.a = true) (t1 : tkB r.b = true) (t2 : tkB r.c = true) (t3 : tkB r.d = true) : Calls Try.prog 51 #[r.val] w (RpE w r) := by
  have B0 : Below w.heap.size w (w.alloc (.cells #[.int .i64 r.E, .bool r.G, .int .i64 r.a, .int .i64 r.b, .int .i64 r.c, .int .i64 r.d] 82)) := (Below.refl _ _).alloc (Nat.le_refl _) _
  have K0 : BlkL (w.alloc (.cells #[.int .i64 r.E, .bool r.G, .int .i64 r.a, .int .i64 r.b, .int .i64 r.c, .int .i64 r.d] 82)) w.heap.size r.cells := BlkL.new w _ _
  have HB0 := Lib.hid B0
  have HK0 := Lib.hid K0
  have hlt : w.heap.size < (w.alloc (.cells #[.int .i64 r.E, .bool r.G, .int .i64 r.a, .int .i64 r.b, .int .i64 r.c, .int .i64 r.d] 82)).heap.size := K0.lt
  have c0 := K0.cell 0 _ rfl
  have c1 := K0.cell 1 _ rfl
  have c2 := K0.cell 2 _ rfl
  have c3 := K0.cell 3 _ rfl
  have c4 := K0.cell 4 _ rfl
  have c5 := K0.cell 5 _ rfl
  clear B0 K0
  obtain ⟨n, hn⟩ : ∃ n : Nat, r.E = (n : Int) := ⟨r.E.toNat, (Int.toNat_of_nonneg h0).symm⟩
  have heB : r.eB = true := by unfold RpV.eB; simp [h0, h1]
  have hok : r.ok = true := by unfold RpV.ok; rw [heB, t0, t1, t2, t3]; rfl
  have x0 := tkB_true t0
  have x1 := tkB_true t1
  have x2 := tkB_true t2
  have x3 := tkB_true t3
  have HT0 := Lib.hid t0
  have HT1 := Lib.hid t1
  have HT2 := Lib.hid t2
  have HT3 := Lib.hid t3
  have HK := Lib.hid hok
  clear hok heB t0 t1 t2 t3
  obtain ⟨E, G, a, b, c, d⟩ := r
  dsimp only at *
  subst hn
  have d0 : decide ((n : Int) < 0) = false := decide_eq_false (by omega)
  have d1 : decide ((16 : Int) < (n : Int)) = false := decide_eq_false (by omega)
  have ew : IntKind.u8.wrap (n : Int) = (n : Int) := IntWalk.u8_in _ (by omega)
  subst hg
  have HC0 : Hid (Calls Try.prog 95 #[.int .i64 a] (w.alloc (.cells #[.int .i64 (n : Int), .bool true, .int .i64 a, .int .i64 b, .int .i64 c, .int .i64 d] 82)) fun e w' => e = .returned (.bool true) ∧ (w.alloc (.cells #[.int .i64 (n : Int), .bool true, .int .i64 a, .int .i64 b, .int .i64 c, .int .i64 d] 82)) = w') := Lib.hid (rform_b _ _ _ HT0.out)
  have HC1 : Hid (Calls Try.prog 95 #[.int .i64 b] (w.alloc (.cells #[.int .i64 (n : Int), .bool true, .int .i64 a, .int .i64 b, .int .i64 c, .int .i64 d] 82)) fun e w' => e = .returned (.bool true) ∧ (w.alloc (.cells #[.int .i64 (n : Int), .bool true, .int .i64 a, .int .i64 b, .int .i64 c, .int .i64 d] 82)) = w') := Lib.hid (rform_b _ _ _ HT1.out)
  have HC2 : Hid (Calls Try.prog 95 #[.int .i64 c] (w.alloc (.cells #[.int .i64 (n : Int), .bool true, .int .i64 a, .int .i64 b, .int .i64 c, .int .i64 d] 82)) fun e w' => e = .returned (.bool true) ∧ (w.alloc (.cells #[.int .i64 (n : Int), .bool true, .int .i64 a, .int .i64 b, .int .i64 c, .int .i64 d] 82)) = w') := Lib.hid (rform_b _ _ _ HT2.out)
  have HC3 : Hid (Calls Try.prog 95 #[.int .i64 d] (w.alloc (.cells #[.int .i64 (n : Int), .bool true, .int .i64 a, .int .i64 b, .int .i64 c, .int .i64 d] 82)) fun e w' => e = .returned (.bool true) ∧ (w.alloc (.cells #[.int .i64 (n : Int), .bool true, .int .i64 a, .int .i64 b, .int .i64 c, .int .i64 d] 82)) = w') := Lib.hid (rform_b _ _ _ HT3.out)
  have HO : Hid (OwnB ((w.alloc (.cells #[.int .i64 (n : Int), .bool true, .int .i64 a, .int .i64 b, .int .i64 c, .int .i64 d] 82)).alloc (.cells #[.int .u8 (n : Int), .int .u8 1] 5)) (w.heap.size + 1) (some ⟨w.heap.size + 1, 0, none⟩) 2 2 [n, 1]) := by
    have := OwnB.lit (w.alloc (.cells #[.int .i64 (n : Int), .bool true, .int .i64 a, .int .i64 b, .int .i64 c, .int .i64 d] 82)) [n, 1] (by simp; omega) rfl (by simp [maxLen])
    rw [World.size_alloc] at this
    exact Lib.hid this
  have HL1 := Lib.hid (HK0.out.alloc (.cells #[.int .u8 (n : Int), .int .u8 1] 5))
  have HBL := Lib.hid ((Below.refl (w.heap.size + 1) (w.alloc (.cells #[.int .i64 (n : Int), .bool true, .int .i64 a, .int .i64 b, .int .i64 c, .int .i64 d] 82))).alloc (by simp) (.cells #[.int .u8 (n : Int), .int .u8 1] 5))
  have HS1 : Hid (w.heap.size + 1 ≤ ((w.alloc (.cells #[.int .i64 (n : Int), .bool true, .int .i64 a, .int .i64 b, .int .i64 c, .int .i64 d] 82)).alloc (.cells #[.int .u8 (n : Int), .int .u8 1] 5)).heap.size) := Lib.hid (by simp)
  have eu0 := u64_nat x0.1 x0.2
  obtain ⟨n0, hn0⟩ : ∃ xn : Nat, a.toNat = xn := ⟨_, rfl⟩
  have hl0 : n0 ≤ 4611686018427387903 := by omega
  rw [hn0] at eu0
  have HX0 := Lib.hid hn0
  have eu1 := u64_nat x1.1 x1.2
  obtain ⟨n1, hn1⟩ : ∃ xn : Nat, b.toNat = xn := ⟨_, rfl⟩
  have hl1 : n1 ≤ 4611686018427387903 := by omega
  rw [hn1] at eu1
  have HX1 := Lib.hid hn1
  have eu2 := u64_nat x2.1 x2.2
  obtain ⟨n2, hn2⟩ : ∃ xn : Nat, c.toNat = xn := ⟨_, rfl⟩
  have hl2 : n2 ≤ 4611686018427387903 := by omega
  rw [hn2] at eu2
  have HX2 := Lib.hid hn2
  have eu3 := u64_nat x3.1 x3.2
  obtain ⟨n3, hn3⟩ : ∃ xn : Nat, d.toNat = xn := ⟨_, rfl⟩
  have hl3 : n3 ≤ 4611686018427387903 := by omega
  rw [hn3] at eu3
  have HX3 := Lib.hid hn3
  clear x0 x1 x2 x3 hn0 hn1 hn2 hn3
  go_enter Try.func51, Try.ntmps51
  go_wp2_with fail
  with_reducible refine (HC0.out).mono ?_
  rintro e w' ⟨rfl, rfl⟩
  go_wp2_with fail
  with_reducible refine (HC1.out).mono ?_
  rintro e w' ⟨rfl, rfl⟩
  go_wp2_with fail
  with_reducible refine (HC2.out).mono ?_
  rintro e w' ⟨rfl, rfl⟩
  go_wp2_with fail
  with_reducible refine (HC3.out).mono ?_
  rintro e w' ⟨rfl, rfl⟩
  clear HC0 HC1 HC2 HC3 HT0 HT1 HT2 HT3 hlt
  go_wp2_with fail
  with_reducible refine (word8 _ n0 (by omega)).mono ?_
  rintro e v0 ⟨E0, f0, rfl, ho, hb⟩
  have HW0 := Lib.hid ho.arg
  have HQ0 := Lib.hid (HO.out.below hb)
  have HZ0 : Hid (w.heap.size + 1 ≤ v0.heap.size) := Lib.hid (Nat.le_trans HS1.out hb.size)
  have HP0 := Lib.hid (HBL.out.trans (hb.mono HS1.out))
  clear HO HBL ho hb c0 c1 c2 c3 c4 c5
  go_wp2_with (refine wpList_append_bytes rfl (.tmp 48) (.tmp 52) rfl (w.heap.size + 1) (some ⟨w.heap.size + 1, 0, none⟩) 2 2 _ rfl HQ0.out v0.heap.size E0 8 f0 (Tk.wordV n0 8) rfl HW0.out (by omega) HZ0.out ?_)
  intro A1 d1 w1 ho hb
  have HO1 := Lib.hid ho
  have HBL1 := Lib.hid (HP0.out.trans hb)
  have HS2 : Hid (w.heap.size + 1 ≤ w1.heap.size) := Lib.hid (Nat.le_trans HZ0.out hb.size)
  have hk := HK0.out.keep HBL1.out (by omega)
  have c2 := hk.cell 2 _ rfl
  have c3 := hk.cell 3 _ rfl
  have c4 := hk.cell 4 _ rfl
  have c5 := hk.cell 5 _ rfl
  clear hk ho hb HQ0 HW0 HP0
  go_wp2_with fail
  with_reducible refine (word8 _ n1 (by omega)).mono ?_
  rintro e v1 ⟨E1, f1, rfl, ho, hb⟩
  have HW1 := Lib.hid ho.arg
  have HQ1 := Lib.hid (HO1.out.below hb)
  have HZ1 : Hid (w.heap.size + 1 ≤ v1.heap.size) := Lib.hid (Nat.le_trans HS2.out hb.size)
  have HP1 := Lib.hid (HBL1.out.trans (hb.mono HS2.out))
  clear HO1 HBL1 ho hb c2 c3 c4 c5
  go_wp2_with (refine wpList_append_bytes rfl (.tmp 54) (.tmp 58) rfl (w.heap.size + 1) A1 (2 + 8) d1 _ rfl HQ1.out v1.heap.size E1 8 f1 (Tk.wordV n1 8) rfl HW1.out (by omega) HZ1.out ?_)
  intro A2 d2 w2 ho hb
  have HO2 := Lib.hid ho
  have HBL2 := Lib.hid (HP1.out.trans hb)
  have HS3 : Hid (w.heap.size + 1 ≤ w2.heap.size) := Lib.hid (Nat.le_trans HZ1.out hb.size)
  have hk := HK0.out.keep HBL2.out (by omega)
  have c2 := hk.cell 2 _ rfl
  have c3 := hk.cell 3 _ rfl
  have c4 := hk.cell 4 _ rfl
  have c5 := hk.cell 5 _ rfl
  clear hk ho hb HQ1 HW1 HP1
  go_wp2_with fail
  with_reducible refine (word8 _ n2 (by omega)).mono ?_
  rintro e v2 ⟨E2, f2, rfl, ho, hb⟩
  have HW2 := Lib.hid ho.arg
  have HQ2 := Lib.hid (HO2.out.below hb)
  have HZ2 : Hid (w.heap.size + 1 ≤ v2.heap.size) := Lib.hid (Nat.le_trans HS3.out hb.size)
  have HP2 := Lib.hid (HBL2.out.trans (hb.mono HS3.out))
  clear HO2 HBL2 ho hb c2 c3 c4 c5
  go_wp2_with (refine wpList_append_bytes rfl (.tmp 60) (.tmp 64) rfl (w.heap.size + 1) A2 (2 + 8 + 8) d2 _ rfl HQ2.out v2.heap.size E2 8 f2 (Tk.wordV n2 8) rfl HW2.out (by omega) HZ2.out ?_)
  intro A3 d3 w3 ho hb
  have HO3 := Lib.hid ho
  have HBL3 := Lib.hid (HP2.out.trans hb)
  have HS4 : Hid (w.heap.size + 1 ≤ w3.heap.size) := Lib.hid (Nat.le_trans HZ2.out hb.size)
  have hk := HK0.out.keep HBL3.out (by omega)
  have c2 := hk.cell 2 _ rfl
  have c3 := hk.cell 3 _ rfl
  have c4 := hk.cell 4 _ rfl
  have c5 := hk.cell 5 _ rfl
  clear hk ho hb HQ2 HW2 HP2
  go_wp2_with fail
  with_reducible refine (word8 _ n3 (by omega)).mono ?_
  rintro e v3 ⟨E3, f3, rfl, ho, hb⟩
  have HW3 := Lib.hid ho.arg
  have HQ3 := Lib.hid (HO3.out.below hb)
  have HZ3 : Hid (w.heap.size + 1 ≤ v3.heap.size) := Lib.hid (Nat.le_trans HS4.out hb.size)
  have HP3 := Lib.hid (HBL3.out.trans (hb.mono HS4.out))
  clear HO3 HBL3 ho hb c2 c3 c4 c5
  go_wp2_with (refine wpList_append_bytes rfl (.tmp 66) (.tmp 70) rfl (w.heap.size + 1) A3 (2 + 8 + 8 + 8) d3 _ rfl HQ3.out v3.heap.size E3 8 f3 (Tk.wordV n3 8) rfl HW3.out (by omega) HZ3.out ?_)
  intro A4 d4 w4 ho hb
  have HO4 := Lib.hid ho
  have HBL4 := Lib.hid (HP3.out.trans hb)
  have HS5 : Hid (w.heap.size + 1 ≤ w4.heap.size) := Lib.hid (Nat.le_trans HZ3.out hb.size)
  have hk := HK0.out.keep HBL4.out (by omega)
  have c2 := hk.cell 2 _ rfl
  have c3 := hk.cell 3 _ rfl
  have c4 := hk.cell 4 _ rfl
  have c5 := hk.cell 5 _ rfl
  clear hk ho hb HQ3 HW3 HP3
  go_wp2
  go_ret2
  refine ⟨A4, 2 + 8 + 8 + 8 + 8, d4, by rw [HK.out]; rfl, ?_, (HB0.out.trans (HBL4.out.mono (by omega)))⟩
  rw [HK.out]
  have := HO4.out.arg
  rw [← HX0.out, ← HX1.out, ← HX2.out, ← HX3.out] at this
  exact this
theorem docReply_any (w : World) (r : RpV) : Calls Try.prog 51 #[r.val] w (RpE w r) := by
  by_cases h0 : r.E < 0
  · exact docReply_lo w r h0
  by_cases h1 : 16 < r.E
  · exact docReply_hi w r h1
  cases t0 : tkB r.a with
  | false => exact docReply_no0 w r (by omega) (by omega) t0
  | true =>
  cases t1 : tkB r.b with
  | false => exact docReply_no1 w r (by omega) (by omega) t0 t1
  | true =>
  cases t2 : tkB r.c with
  | false => exact docReply_no2 w r (by omega) (by omega) t0 t1 t2
  | true =>
  cases t3 : tkB r.d with
  | false => exact docReply_no3 w r (by omega) (by omega) t0 t1 t2 t3
  | true =>
  cases hg : r.G with
  | false => exact docReply_ok0 w r (by omega) (by omega) hg t0 t1 t2 t3
  | true => exact docReply_ok1 w r (by omega) (by omega) hg t0 t1 t2 t3
end Go.Proofs.Ytndgladfcogiiaa
