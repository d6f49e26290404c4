/- Contracts of package wide: Scale, Ceil. -/
import Derived.Test.YtafboimlchjnaaaDoorShrink
import Derived.Test.YtafboimlchjnaaaDoorDiv64
namespace Go.Proofs.YtafboimlchjnaaaDoor
open Go.RowKit
set_option maxRecDepth 100000

theorem shrink_at (w : World) (v hi lo j how x y : Nat) (hv : v < 340282366920938463463374607431768211456) (hk : j < 4096) (hh : how ≤ 2) (h : Two v hi lo) (h' : Two (roundV v (2 ^ (j + 1)) how) x y) :
    Calls Tryd.prog 82 #[.agg #[.int .u64 (hi : Int), .int .u64 (lo : Int)], .int .u64 ((j : Int) + 1), .int .i64 (how : Int)] w (R2 w x y) := by
  rw [← W2_of h.1 h.2]
  exact (shrink_any w v j how hv hk hh).mono fun _ _ => R2.of h'

def R2B (w : World) (x y : Nat) (b : Bool) (e : Ending) (w' : World) : Prop := e = .returned (.tuple #[.agg #[.int .u64 (x : Int), .int .u64 (y : Int)], .bool b]) ∧ Below w.heap.size w w'

set_option maxHeartbeats 1600000 in
theorem scale_neg (w : World) (v hi lo j how x y : Nat) (e : Int) (he : e = -((j : Int) + 1)) (hv : v < 340282366920938463463374607431768211456) (hk : j < 4096) (hh : how ≤ 2) (h : Two v hi lo) (h' : Two (roundV v (2 ^ (j + 1)) how) x y) :
    Calls Tryd.prog 60 #[.agg #[.int .u64 (hi : Int), .int .u64 (lo : Int)], .int .i64 e, .int .i64 (how : Int)] w (R2B w x y true) := by
  have HX := Lib.hid (fun w => shrink_at w v hi lo j how x y hv hk hh h h')
  have hn : decide (e < 0) = true := decide_eq_true (by omega)
  have hen : -e = (j : Int) + 1 := by omega
  have hw : IntKind.u64.wrap ((j : Int) + 1) = (j : Int) + 1 := u64_in (by omega) (by omega)
  have hw2 : wrap64 ((j : Int) + 1) = (j : Int) + 1 := by unfold wrap64; omega
  clear he hv hk hh h h'
  go_enter Tryd.func60, Tryd.ntmps60
  go_wp2_with fail
  refine (HX.out _).mono ?_
  rintro e w1 ⟨rfl, hb1⟩
  have R1 : Blk w1 (w.heap.size + 1) (.int .u64 0) (.int .u64 0) := (by simpa using Blk.new (w.alloc (.cells #[.int .u64 (hi : Int), .int .u64 (lo : Int)] 81)) (.int .u64 0) (.int .u64 0) 81 : Blk _ (w.heap.size + 1) _ _).below hb1
  have HB1 := Lib.hid (((Below.refl w.heap.size w).alloc (Nat.le_refl _) _).alloc (by simp) _ |>.trans (hb1.mono (by simp; omega)))
  have HR1 := Lib.hid R1
  obtain ⟨_, p0, p1, p2, p3⟩ := id R1
  obtain ⟨u0, u1⟩ := R1.put (.int .u64 (x : Int)) (.int .u64 (y : Int))
  clear hb1 R1
  go_wp2
  exact bodyPost_ret (v := .tuple #[.agg #[.int .u64 (x : Int), .int .u64 (y : Int)], .bool true]) (by simp [results, Tryd.results60, go_sem, u0, u1]) rfl ⟨rfl, (HB1.out.setCell (by simp) _).setCell (by simp) _⟩

set_option maxHeartbeats 1600000 in
theorem scale_pos (w : World) (v hi lo k how a b c d : Nat) (hv : v < 340282366920938463463374607431768211456) (hk : k ≤ 4096) (h : Two v hi lo) (hS : Two (shl2 v k) a b) (hW : Two (shl2 v k / 2 ^ k) c d) (hq : decide (c = hi ∧ d = lo) = true) :
    Calls Tryd.prog 60 #[.agg #[.int .u64 (hi : Int), .int .u64 (lo : Int)], .int .i64 (k : Int), .int .i64 (how : Int)] w (R2B w a b true) := by
  have HL := Lib.hid (fun w => left_at w v hi lo k a b hv hk h hS)
  have HR := Lib.hid (fun w => right_at w (shl2 v k) a b k c d (shl2_lt v k) hk hS hW)
  have EQ1 := neqN c d hi lo
  rw [hq] at EQ1
  have hn : decide ((k : Int) < 0) = false := decide_eq_false (by omega)
  have hw : IntKind.u64.wrap (k : Int) = (k : Int) := u64_in (by omega) (by omega)
  clear hv hk h hS hW hq
  go_enter Tryd.func60, Tryd.ntmps60
  go_wp2_with fail
  refine (HL.out _).mono ?_
  rintro e w1 ⟨rfl, hb1⟩
  have hz1 : w.heap.size + 2 ≤ w1.heap.size := by have := hb1.size; simpa using this
  have N1 : Blk w1 w.heap.size (.int .u64 (hi : Int)) (.int .u64 (lo : Int)) := ((Blk.new w _ _ 81).alloc _).below hb1
  have R1 : Blk w1 (w.heap.size + 1) (.int .u64 0) (.int .u64 0) := (by simpa using Blk.new (w.alloc (.cells #[.int .u64 (hi : Int), .int .u64 (lo : Int)] 81)) (.int .u64 0) (.int .u64 0) 81 : Blk _ (w.heap.size + 1) _ _).below hb1
  have HB1 := Lib.hid (((Below.refl w.heap.size w).alloc (Nat.le_refl _) _).alloc (by simp) _ |>.trans (hb1.mono (by simp; omega)))
  obtain ⟨_, n0, n1, _, _⟩ := id N1
  have HN1 := Lib.hid N1
  have HR1 := Lib.hid R1
  clear hb1 N1 R1
  go_wp2_with fail
  go_region_held3 (fun w' => w'.cell? ⟨w.heap.size, 0, none⟩ = some (.int .u64 (hi : Int)) ∧ w'.cell? ⟨w.heap.size, 1, none⟩ = some (.int .u64 (lo : Int)) ∧ w'.cell? ⟨w1.heap.size, 0, none⟩ = some (.int .u64 (a : Int)) ∧ w'.cell? ⟨w1.heap.size, 1, none⟩ = some (.int .u64 (b : Int)))
    (go_keep)
    (first
      | ((with_reducible refine (HR.out _).mono ?_); rintro e w2 ⟨rfl, hb2⟩; have hz2 : w1.heap.size + 1 ≤ w2.heap.size := (by have := hb2.size; simpa using this); have HN2 := Lib.hid (((HN1.out.alloc _).drew).below hb2); have HR2 := Lib.hid (((HR1.out.alloc _).drew).below hb2); have HW2 := Lib.hid (((Blk.new w1 (.int .u64 (a : Int)) (.int .u64 (b : Int)) 81).drew).below hb2); have HB2 := Lib.hid (HB1.out.trans ((((Below.refl w1.heap.size w1).alloc (Nat.le_refl _) _).drew.trans (hb2.mono (by simp))).mono (by omega))); obtain ⟨_, m0, m1, _, _⟩ := id HN2.out; obtain ⟨_, m2, m3, _, _⟩ := id HW2.out; clear hb2))
  obtain ⟨_, p0, p1, p2, p3⟩ := id HR2.out
  obtain ⟨u0, u1⟩ := HR2.out.put (.int .u64 (a : Int)) (.int .u64 (b : Int))
  go_wp2
  exact bodyPost_ret (v := .tuple #[.agg #[.int .u64 (a : Int), .int .u64 (b : Int)], .bool true]) (by simp [results, Tryd.results60, go_sem, u0, u1]) rfl ⟨rfl, (HB2.out.setCell (by simp) _).setCell (by simp) _⟩

set_option maxHeartbeats 1600000 in
theorem scale_big (w : World) (v hi lo k how a b c d : Nat) (hv : v < 340282366920938463463374607431768211456) (hk : k ≤ 4096) (h : Two v hi lo) (hS : Two (shl2 v k) a b) (hW : Two (shl2 v k / 2 ^ k) c d) (hq : decide (c = hi ∧ d = lo) = false) :
    Calls Tryd.prog 60 #[.agg #[.int .u64 (hi : Int), .int .u64 (lo : Int)], .int .i64 (k : Int), .int .i64 (how : Int)] w (R2B w 0 0 false) := by
  have HL := Lib.hid (fun w => left_at w v hi lo k a b hv hk h hS)
  have HR := Lib.hid (fun w => right_at w (shl2 v k) a b k c d (shl2_lt v k) hk hS hW)
  have EQ1 := neqN c d hi lo
  rw [hq] at EQ1
  have hn : decide ((k : Int) < 0) = false := decide_eq_false (by omega)
  have hw : IntKind.u64.wrap (k : Int) = (k : Int) := u64_in (by omega) (by omega)
  clear hv hk h hS hW hq
  go_enter Tryd.func60, Tryd.ntmps60
  go_wp2_with fail
  refine (HL.out _).mono ?_
  rintro e w1 ⟨rfl, hb1⟩
  have hz1 : w.heap.size + 2 ≤ w1.heap.size := by have := hb1.size; simpa using this
  have N1 : Blk w1 w.heap.size (.int .u64 (hi : Int)) (.int .u64 (lo : Int)) := ((Blk.new w _ _ 81).alloc _).below hb1
  have R1 : Blk w1 (w.heap.size + 1) (.int .u64 0) (.int .u64 0) := (by simpa using Blk.new (w.alloc (.cells #[.int .u64 (hi : Int), .int .u64 (lo : Int)] 81)) (.int .u64 0) (.int .u64 0) 81 : Blk _ (w.heap.size + 1) _ _).below hb1
  have HB1 := Lib.hid (((Below.refl w.heap.size w).alloc (Nat.le_refl _) _).alloc (by simp) _ |>.trans (hb1.mono (by simp; omega)))
  obtain ⟨_, n0, n1, _, _⟩ := id N1
  have HN1 := Lib.hid N1
  have HR1 := Lib.hid R1
  clear hb1 N1 R1
  go_wp2_with fail
  go_region_held3 (fun w' => w'.cell? ⟨w.heap.size, 0, none⟩ = some (.int .u64 (hi : Int)) ∧ w'.cell? ⟨w.heap.size, 1, none⟩ = some (.int .u64 (lo : Int)) ∧ w'.cell? ⟨w1.heap.size, 0, none⟩ = some (.int .u64 (a : Int)) ∧ w'.cell? ⟨w1.heap.size, 1, none⟩ = some (.int .u64 (b : Int)))
    (go_keep)
    (first
      | ((with_reducible refine (HR.out _).mono ?_); rintro e w2 ⟨rfl, hb2⟩; have hz2 : w1.heap.size + 1 ≤ w2.heap.size := (by have := hb2.size; simpa using this); have HN2 := Lib.hid (((HN1.out.alloc _).drew).below hb2); have HR2 := Lib.hid (((HR1.out.alloc _).drew).below hb2); have HW2 := Lib.hid (((Blk.new w1 (.int .u64 (a : Int)) (.int .u64 (b : Int)) 81).drew).below hb2); have HB2 := Lib.hid (HB1.out.trans ((((Below.refl w1.heap.size w1).alloc (Nat.le_refl _) _).drew.trans (hb2.mono (by simp))).mono (by omega))); obtain ⟨_, m0, m1, _, _⟩ := id HN2.out; obtain ⟨_, m2, m3, _, _⟩ := id HW2.out; clear hb2))
  obtain ⟨_, p0, p1, p2, p3⟩ := id HR2.out
  obtain ⟨u0, u1⟩ := HR2.out.put (.int .u64 0) (.int .u64 0)
  go_wp2
  exact bodyPost_ret (v := .tuple #[.agg #[.int .u64 0, .int .u64 0], .bool false]) (by simp [results, Tryd.results60, go_sem, u0, u1]) rfl ⟨rfl, (HB2.out.setCell (by simp) _).setCell (by simp) _⟩

theorem ceil_two {v hi lo y : Nat} (hy0 : 0 < y) (h : Two v hi lo) : Two (v / y) (hi / y) ((hi % y * 18446744073709551616 + lo) / y) ∧ (hi % y * 18446744073709551616 + lo) % y = v % y := by
  have hd := Nat.div_add_mod hi y
  have hm := Nat.mod_lt hi hy0
  have hlo : lo < 18446744073709551616 := by unfold Two at h; omega
  have e : v = hi % y * 18446744073709551616 + lo + y * (hi / y * 18446744073709551616) := by
    have h1 : v = hi * 18446744073709551616 + lo := by unfold Two at h; omega
    rw [← Nat.mul_assoc, h1]
    generalize y * (hi / y) = p at *
    omega
  have hq : (hi % y * 18446744073709551616 + lo) / y < 18446744073709551616 := by
    rw [Nat.div_lt_iff_lt_mul hy0]
    omega
  have e1 : v / y = (hi % y * 18446744073709551616 + lo) / y + hi / y * 18446744073709551616 := by
    rw [e, Nat.add_mul_div_left _ _ hy0]
  have e2 : v % y = (hi % y * 18446744073709551616 + lo) % y := by
    rw [e, Nat.add_mul_mod_self_left]
  refine ⟨?_, e2.symm⟩
  unfold Two
  rw [e1]
  generalize (hi % y * 18446744073709551616 + lo) / y = q at *
  generalize hi / y = a at *
  omega

set_option maxHeartbeats 1600000 in
theorem ceil_stay (w : World) (hi lo y m a q r : Nat) (hy0 : 0 < y) (hy : y < 18446744073709551616) (hl : lo < 18446744073709551616) (hh : hi < 18446744073709551616) (hm : hi % y = m) (ha : hi / y = a) (hq : (hi % y * 18446744073709551616 + lo) / y = q) (hr : (hi % y * 18446744073709551616 + lo) % y = r)
    (hup : decide (0 < r) = false) :
    Calls Tryd.prog 100 #[.agg #[.int .u64 (hi : Int), .int .u64 (lo : Int)], .int .u64 (y : Int)] w (R2 w a q) := by
  have HD := fun w => div64_any w (hi % y) lo y (Nat.mod_lt _ hy0) hy hl
  rw [hq, hr, hm] at HD
  have HDD := Lib.hid HD
  have t1 : ((y : Int) == 0) = false := beq_eq_false_iff_ne.2 (by omega)
  have t1' : ¬ (y : Int) = 0 := by omega
  have e1 : (hi : Int).tdiv (y : Int) = (a : Int) := by rw [← ha]; rfl
  have e2 : (hi : Int).tmod (y : Int) = (m : Int) := by rw [← hm]; rfl
  have ba : a ≤ hi := by rw [← ha]; exact Nat.div_le_self _ _
  have bm : m ≤ hi := by rw [← hm]; exact Nat.mod_le _ _
  have e3 : IntKind.u64.wrap (a : Int) = (a : Int) := u64_in (by omega) (by omega)
  have e4 : IntKind.u64.wrap (m : Int) = (m : Int) := u64_in (by omega) (by omega)
  clear hm ha hq hr ba bm HD hy hl hh hy0
  go_enter Tryd.func100, Tryd.ntmps100
  go_wp2_with fail
  go_quiet ((go_at_call 94; exact Calls.quiet_of (HDD.out _)))
  obtain ⟨u0, u1⟩ := (Blk.drewN (by simpa using Blk.new (w.alloc (.cells #[.int .u64 (hi : Int), .int .u64 (lo : Int)] 81)) (.int .u64 0) (.int .u64 0) 81 : Blk ((w.alloc (.cells #[.int .u64 (hi : Int), .int .u64 (lo : Int)] 81)).alloc (.cells #[.int .u64 0, .int .u64 0] 81)) (w.heap.size + 1) (.int .u64 0) (.int .u64 0)) nq).put (.int .u64 (a : Int)) (.int .u64 (q : Int))
  go_wp2
  exact bodyPost_ret (v := .agg #[.int .u64 (a : Int), .int .u64 (q : Int)]) (by simp [results, Tryd.results100, go_sem, u0, u1]) rfl ⟨rfl, (((below_drewN (((Below.refl w.heap.size w).alloc (Nat.le_refl _) _).alloc (by simp) _) _).setCell (by simp) _).setCell (by simp) _).alloc (by simp [World.setCell]; omega) _⟩

set_option maxHeartbeats 1600000 in
theorem ceil_up (w : World) (hi lo y m a q r v x z : Nat) (hy0 : 0 < y) (hy : y < 18446744073709551616) (hl : lo < 18446744073709551616) (hh : hi < 18446744073709551616) (hm : hi % y = m) (ha : hi / y = a) (hq : (hi % y * 18446744073709551616 + lo) / y = q) (hr : (hi % y * 18446744073709551616 + lo) % y = r)
    (hup : decide (0 < r) = true) (hv : v < 340282366920938463463374607431768211455) (hN : Two v a q) (hX : Two (v + 1) x z) :
    Calls Tryd.prog 100 #[.agg #[.int .u64 (hi : Int), .int .u64 (lo : Int)], .int .u64 (y : Int)] w (R2 w x z) := by
  have HD := fun w => div64_any w (hi % y) lo y (Nat.mod_lt _ hy0) hy hl
  rw [hq, hr, hm] at HD
  have HDD := Lib.hid HD
  have t1 : ((y : Int) == 0) = false := beq_eq_false_iff_ne.2 (by omega)
  have t1' : ¬ (y : Int) = 0 := by omega
  have e1 : (hi : Int).tdiv (y : Int) = (a : Int) := by rw [← ha]; rfl
  have e2 : (hi : Int).tmod (y : Int) = (m : Int) := by rw [← hm]; rfl
  have ba : a ≤ hi := by rw [← ha]; exact Nat.div_le_self _ _
  have bm : m ≤ hi := by rw [← hm]; exact Nat.mod_le _ _
  have e3 : IntKind.u64.wrap (a : Int) = (a : Int) := u64_in (by omega) (by omega)
  have e4 : IntKind.u64.wrap (m : Int) = (m : Int) := u64_in (by omega) (by omega)
  have HX := Lib.hid (fun w => next_at w v a q x z hv hN hX)
  clear hm ha hq hr ba bm HD hy hl hh hy0 hv hN hX
  go_enter Tryd.func100, Tryd.ntmps100
  go_wp2_with fail
  go_quiet ((go_at_call 94; exact Calls.quiet_of (HDD.out _)))
  go_wp2_with fail
  refine (HX.out _).mono ?_
  rintro e w1 ⟨rfl, hb1⟩
  have R1 : Blk w1 (w.heap.size + 1) (.int .u64 0) (.int .u64 0) := Blk.below (by first | exact (Blk.drewN (by simpa using Blk.new (w.alloc (.cells #[.int .u64 (hi : Int), .int .u64 (lo : Int)] 81)) (.int .u64 0) (.int .u64 0) 81 : Blk ((w.alloc (.cells #[.int .u64 (hi : Int), .int .u64 (lo : Int)] 81)).alloc (.cells #[.int .u64 0, .int .u64 0] 81)) (w.heap.size + 1) (.int .u64 0) (.int .u64 0)) _).alloc _ | exact (Blk.alloc (by simpa using Blk.new (w.alloc (.cells #[.int .u64 (hi : Int), .int .u64 (lo : Int)] 81)) (.int .u64 0) (.int .u64 0) 81 : Blk ((w.alloc (.cells #[.int .u64 (hi : Int), .int .u64 (lo : Int)] 81)).alloc (.cells #[.int .u64 0, .int .u64 0] 81)) (w.heap.size + 1) (.int .u64 0) (.int .u64 0)) _).drewN _) hb1
  have HB1 : Hid (Below w.heap.size w w1) := Lib.hid (Below.trans (by first | exact (below_drewN (((Below.refl w.heap.size w).alloc (Nat.le_refl _) _).alloc (by simp) _) _).alloc (by simp; omega) _ | exact below_drewN ((((Below.refl w.heap.size w).alloc (Nat.le_refl _) _).alloc (by simp) _).alloc (by simp; omega) _) _) (hb1.mono (by simp; omega)))
  obtain ⟨_, p0, p1, p2, p3⟩ := id R1
  obtain ⟨u0, u1⟩ := R1.put (.int .u64 (x : Int)) (.int .u64 (z : Int))
  clear hb1 R1
  go_wp2
  exact bodyPost_ret (v := .agg #[.int .u64 (x : Int), .int .u64 (z : Int)]) (by simp [results, Tryd.results100, go_sem, u0, u1]) rfl ⟨rfl, (HB1.out.setCell (by simp) _).setCell (by simp) _⟩

theorem ceil_any (w : World) (v hi lo y x z : Nat) (hy0 : 0 < y) (hy : y < 18446744073709551616) (hv : v < 340282366920938463463374607431768211455) (h : Two v hi lo) (hX : Two (roundV v y 1) x z) :
    Calls Tryd.prog 100 #[.agg #[.int .u64 (hi : Int), .int .u64 (lo : Int)], .int .u64 (y : Int)] w (R2 w x z) := by
  obtain ⟨h1, h2⟩ := ceil_two hy0 h
  have hl : lo < 18446744073709551616 := by unfold Two at h; omega
  have hh : hi < 18446744073709551616 := by unfold Two at h; omega
  rcases Nat.eq_zero_or_pos (v % y) with h0 | h0
  · have e : roundV v y 1 = v / y := by unfold roundV; rw [upB_false (by omega)]; rfl
    rw [e] at hX
    have := ceil_stay w hi lo y _ _ _ _ hy0 hy hl hh rfl rfl rfl rfl (decide_eq_false (by rw [h2, h0]; decide))
    rw [h1.1.symm.trans hX.1, h1.2.symm.trans hX.2] at this
    exact this
  · have e : roundV v y 1 = v / y + 1 := by unfold roundV; rw [upB_true (.inl ⟨rfl, h0⟩)]; rfl
    rw [e] at hX
    have hvl : v / y ≤ v := Nat.div_le_self _ _
    exact ceil_up w hi lo y _ _ _ _ (v / y) x z hy0 hy hl hh rfl rfl rfl rfl (decide_eq_true (by rw [h2]; omega)) (by omega) h1 hX
end Go.Proofs.YtafboimlchjnaaaDoor
