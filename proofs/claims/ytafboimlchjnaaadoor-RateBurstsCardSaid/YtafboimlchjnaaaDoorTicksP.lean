/- Contract of package real: Ticks. -/
import Derived.Test.YtafboimlchjnaaaDoorTicksM
import Derived.Test.YtafboimlchjnaaaDoorExactP
import Derived.Test.YtafboimlchjnaaaDoorScale
namespace Go.Proofs.YtafboimlchjnaaaDoor
open Go.RowKit
set_option maxRecDepth 100000

def hzB (hz : Int) : Bool := decide (1 ≤ hz ∧ hz ≤ 1000000000)
set_option maxHeartbeats 400000 in
theorem isHzP_any (w : World) (hz : Int) : Calls Tryd.prog 58 #[.int .i64 hz] w fun e w' => e = .returned (.bool (hzB hz)) ∧ w = w' := by
  by_cases h1 : 1 ≤ hz
  · have hd : hzB hz = decide (hz ≤ 1000000000) := by unfold hzB; simp [h1]
    have HD := Lib.hid hd
    clear hd
    go_enter Tryd.func58, Tryd.ntmps58
    go_wp2
    go_ret
    exact ⟨ret_bool (by rw [HD.out]), rfl⟩
  · have hd : hzB hz = false := by unfold hzB; simp [h1]
    have HD := Lib.hid hd
    have h2 : decide (1 ≤ hz) = false := decide_eq_false h1
    clear hd h1
    go_enter Tryd.func58, Tryd.ntmps58
    go_wp2
    go_ret
    exact ⟨ret_bool (by rw [HD.out]), rfl⟩

theorem product_at (w : World) (a b x y : Nat) (ha : a < 18446744073709551616) (hb : b < 18446744073709551616) (h : Two (a * b) x y) :
    Calls Tryd.prog 59 #[.int .u64 (a : Int), .int .u64 (b : Int)] w (R2 w x y) := (product_w w a b ha hb).mono fun _ _ => R2.of h
theorem tick_ok (w : World) (v x y : Nat) (h : Two v x y) (hv : v ≤ 4611686018427387903) :
    Calls Tryd.prog 61 #[.agg #[.int .u64 (x : Int), .int .u64 (y : Int)]] w fun e w' => e = .returned (.tuple #[.int .i64 (v : Int), .bool true]) ∧ Below w.heap.size w w' := by
  have := tick_w w v (by omega)
  rw [W2_of h.1 h.2, if_pos hv] at this
  exact this
theorem tick_no (w : World) (v x y : Nat) (h : Two v x y) (hl : v < 340282366920938463463374607431768211456) (hv : ¬ v ≤ 4611686018427387903) :
    Calls Tryd.prog 61 #[.agg #[.int .u64 (x : Int), .int .u64 (y : Int)]] w fun e w' => e = .returned (.tuple #[.int .i64 0, .bool false]) ∧ Below w.heap.size w w' := by
  have := tick_w w v hl
  rw [W2_of h.1 h.2, if_neg hv] at this
  exact this

set_option maxHeartbeats 800000 in
theorem ticksP_arg1 (w : World) (b : Nat) (hz how : Int) (hh : hzB hz = false) :
    Calls Tryd.prog 24 #[.float .f64 b, .int .i64 hz, .int .i64 how] w (TwoV w (0, 1)) := by
  have HC := isHzP_any w hz
  rw [hh] at HC
  have HCC := Lib.hid HC
  clear HC hh
  go_enter Tryd.func24, Tryd.ntmps24
  go_wp2_with fail
  refine HCC.out.mono ?_
  rintro e w1 ⟨rfl, rfl⟩
  go_wp2
  go_ret2
  exact ⟨rfl, Below.refl _ _⟩

set_option maxHeartbeats 800000 in
theorem ticksP_arg2 (w : World) (b : Nat) (hz how : Int) (hh : hzB hz = true) (q : decide (how < 0) = true) :
    Calls Tryd.prog 24 #[.float .f64 b, .int .i64 hz, .int .i64 how] w (TwoV w (0, 1)) := by
  have HC := isHzP_any w hz
  rw [hh] at HC
  have HCC := Lib.hid HC
  clear HC hh
  go_enter Tryd.func24, Tryd.ntmps24
  go_wp2_with fail
  refine HCC.out.mono ?_
  rintro e w1 ⟨rfl, rfl⟩
  go_wp2
  go_ret2
  exact ⟨rfl, Below.refl _ _⟩

set_option maxHeartbeats 800000 in
theorem ticksP_arg3 (w : World) (b : Nat) (hz how : Int) (hh : hzB hz = true) (q : decide (how < 0) = false) (q' : decide (2 < how) = true) :
    Calls Tryd.prog 24 #[.float .f64 b, .int .i64 hz, .int .i64 how] w (TwoV w (0, 1)) := by
  have HC := isHzP_any w hz
  rw [hh] at HC
  have HCC := Lib.hid HC
  clear HC hh
  go_enter Tryd.func24, Tryd.ntmps24
  go_wp2_with fail
  refine HCC.out.mono ?_
  rintro e w1 ⟨rfl, rfl⟩
  go_wp2
  go_ret2
  exact ⟨rfl, Below.refl _ _⟩

set_option maxHeartbeats 1600000 in
theorem ticksP_fault (w : World) (b hz how : Nat) (f : Int) (s : Bool) (m : Nat) (e : Int) (hb : b ≤ 18446744073709551615) (hT : Tab w) (h1 : 1 ≤ hz) (h2 : hz ≤ 1000000000) (h3 : how ≤ 2) (hv : exactV b = .tuple #[.bool s, .int .u64 (m : Int), .int .i64 e, .int .i64 f]) (hf : f = 4 ∨ f = 5) :
    Calls Tryd.prog 24 #[.float .f64 b, .int .i64 (hz : Int), .int .i64 (how : Int)] w (TwoV w (0, f)) := by
  have HC := isHzP_any w (hz : Int)
  rw [show hzB (hz : Int) = true from decide_eq_true (by omega)] at HC
  have HCC := Lib.hid HC
  have HX := exactP_any w b hb hT
  rw [hv] at HX
  have HXX := Lib.hid HX
  have qa : decide ((how : Int) < 0) = false := decide_eq_false (by omega)
  have qb : decide ((2 : Int) < (how : Int)) = false := decide_eq_false (by omega)
  have qf : (f != 0) = true := by simp; omega
  have qf2 : (f == 0) = false := by simp; omega
  clear HC HX hv hf h3 hb hT h1 h2
  go_enter Tryd.func24, Tryd.ntmps24
  go_wp2_with fail
  refine HCC.out.mono ?_
  rintro e w1 ⟨rfl, rfl⟩
  go_wp2_with fail
  refine HXX.out.mono ?_
  rintro e w1 ⟨rfl, n, rfl⟩
  go_wp2
  go_ret2
  exact ⟨rfl, below_drewN (Below.refl _ _) _⟩

set_option maxHeartbeats 1600000 in
theorem ticksP_neg (w : World) (b hz how : Nat) (m : Nat) (e : Int) (hb : b ≤ 18446744073709551615) (hT : Tab w) (h1 : 1 ≤ hz) (h2 : hz ≤ 1000000000) (h3 : how ≤ 2) (hv : exactV b = .tuple #[.bool true, .int .u64 (m : Int), .int .i64 e, .int .i64 0]) (hm : 0 < m) :
    Calls Tryd.prog 24 #[.float .f64 b, .int .i64 (hz : Int), .int .i64 (how : Int)] w (TwoV w (0, 5)) := by
  have HC := isHzP_any w (hz : Int)
  rw [show hzB (hz : Int) = true from decide_eq_true (by omega)] at HC
  have HCC := Lib.hid HC
  have HX := exactP_any w b hb hT
  rw [hv] at HX
  have HXX := Lib.hid HX
  have qa : decide ((how : Int) < 0) = false := decide_eq_false (by omega)
  have qb : decide ((2 : Int) < (how : Int)) = false := decide_eq_false (by omega)
  have qm : ((m : Int) != 0) = true := by simp; omega
  have qm2 : ((m : Int) == 0) = false := by simp; omega
  clear HC HX hv h3 hb hT h1 h2 hm
  go_enter Tryd.func24, Tryd.ntmps24
  go_wp2_with fail
  refine HCC.out.mono ?_
  rintro e w1 ⟨rfl, rfl⟩
  go_wp2_with fail
  refine HXX.out.mono ?_
  rintro e w1 ⟨rfl, n, rfl⟩
  go_wp2
  go_ret2
  exact ⟨rfl, below_drewN (Below.refl _ _) _⟩

set_option maxHeartbeats 1600000 in
theorem ticksP_dn (w : World) (b hz how : Nat) (m j x y r s v : Nat) (hb : b ≤ 18446744073709551615) (hT : Tab w) (h1 : 1 ≤ hz) (h2 : hz ≤ 1000000000) (h3 : how ≤ 2) (hv : exactV b = .tuple #[.bool false, .int .u64 (m : Int), .int .i64 (-((j : Int) + 1)), .int .i64 0]) (hm : m < 9007199254740992) (hP : Two (m * hz) x y) (hj : j < 4096) (hS : Two v r s) (hvv : roundV (m * hz) (2 ^ (j + 1)) how = v) (hl : v ≤ 4611686018427387903) :
    Calls Tryd.prog 24 #[.float .f64 b, .int .i64 (hz : Int), .int .i64 (how : Int)] w (TwoV w ((v : Nat), 0)) := by
  have HC := isHzP_any w (hz : Int)
  rw [show hzB (hz : Int) = true from decide_eq_true (by omega)] at HC
  have HCC := Lib.hid HC
  have HX := exactP_any w b hb hT
  rw [hv] at HX
  have HXX := Lib.hid HX
  have qa : decide ((how : Int) < 0) = false := decide_eq_false (by omega)
  have qb : decide ((2 : Int) < (how : Int)) = false := decide_eq_false (by omega)
  have mb : m * hz < 340282366920938463463374607431768211455 := by
    have : m * hz ≤ 9007199254740992 * 1000000000 := Nat.mul_le_mul (by omega) h2
    omega
  have HPP := Lib.hid (fun w => product_at w m hz x y (by omega) (by omega) hP)
  have hvl : v < 340282366920938463463374607431768211456 := by rw [← hvv]; exact round_lt mb
  have HSS := Lib.hid (fun w => scale_neg w (m * hz) x y j how r s (-((j : Int) + 1)) rfl (by omega) hj h3 hP (by rw [hvv]; exact hS))
  have HTT := Lib.hid (fun w => tick_ok w (v) r s hS hl)
  have uw : IntKind.u64.wrap (hz : Int) = (hz : Int) := u64_in (by omega) (by omega)
  clear HC HX hv h3 hb hT h1 h2 hm hP mb hj hS hvv hvl hl
  go_enter Tryd.func24, Tryd.ntmps24
  go_wp2_with fail
  refine HCC.out.mono ?_
  rintro e w1 ⟨rfl, rfl⟩
  go_wp2_with fail
  refine HXX.out.mono ?_
  rintro e w1 ⟨rfl, n, rfl⟩
  go_wp2_with fail
  refine (HPP.out _).mono ?_
  rintro e w2 ⟨rfl, hb2⟩
  have HB2 := Lib.hid ((below_drewN (Below.refl w.heap.size w) n).trans hb2)
  clear hb2
  go_wp2_with fail
  refine (HSS.out _).mono ?_
  rintro e w3 ⟨rfl, hb3⟩
  have HB3 := Lib.hid (HB2.out.trans (hb3.mono HB2.out.size))
  clear hb3
  go_wp2_with fail
  refine (HTT.out _).mono ?_
  rintro e w4 ⟨rfl, hb4⟩
  have HB4 := Lib.hid ((HB3.out.alloc HB3.out.size _).trans (hb4.mono (by have := HB3.out.size; simp; omega)))
  clear hb4
  go_wp2
  go_ret2
  exact ⟨rfl, HB4.out⟩

set_option maxHeartbeats 1600000 in
theorem ticksP_dnx (w : World) (b hz how : Nat) (m j x y r s v : Nat) (hb : b ≤ 18446744073709551615) (hT : Tab w) (h1 : 1 ≤ hz) (h2 : hz ≤ 1000000000) (h3 : how ≤ 2) (hv : exactV b = .tuple #[.bool false, .int .u64 (m : Int), .int .i64 (-((j : Int) + 1)), .int .i64 0]) (hm : m < 9007199254740992) (hP : Two (m * hz) x y) (hj : j < 4096) (hS : Two v r s) (hvv : roundV (m * hz) (2 ^ (j + 1)) how = v) (hl : ¬ v ≤ 4611686018427387903) :
    Calls Tryd.prog 24 #[.float .f64 b, .int .i64 (hz : Int), .int .i64 (how : Int)] w (TwoV w (0, 5)) := by
  have HC := isHzP_any w (hz : Int)
  rw [show hzB (hz : Int) = true from decide_eq_true (by omega)] at HC
  have HCC := Lib.hid HC
  have HX := exactP_any w b hb hT
  rw [hv] at HX
  have HXX := Lib.hid HX
  have qa : decide ((how : Int) < 0) = false := decide_eq_false (by omega)
  have qb : decide ((2 : Int) < (how : Int)) = false := decide_eq_false (by omega)
  have mb : m * hz < 340282366920938463463374607431768211455 := by
    have : m * hz ≤ 9007199254740992 * 1000000000 := Nat.mul_le_mul (by omega) h2
    omega
  have HPP := Lib.hid (fun w => product_at w m hz x y (by omega) (by omega) hP)
  have hvl : v < 340282366920938463463374607431768211456 := by rw [← hvv]; exact round_lt mb
  have HSS := Lib.hid (fun w => scale_neg w (m * hz) x y j how r s (-((j : Int) + 1)) rfl (by omega) hj h3 hP (by rw [hvv]; exact hS))
  have HTT := Lib.hid (fun w => tick_no w (v) r s hS hvl hl)
  have uw : IntKind.u64.wrap (hz : Int) = (hz : Int) := u64_in (by omega) (by omega)
  clear HC HX hv h3 hb hT h1 h2 hm hP mb hj hS hvv hvl hl
  go_enter Tryd.func24, Tryd.ntmps24
  go_wp2_with fail
  refine HCC.out.mono ?_
  rintro e w1 ⟨rfl, rfl⟩
  go_wp2_with fail
  refine HXX.out.mono ?_
  rintro e w1 ⟨rfl, n, rfl⟩
  go_wp2_with fail
  refine (HPP.out _).mono ?_
  rintro e w2 ⟨rfl, hb2⟩
  have HB2 := Lib.hid ((below_drewN (Below.refl w.heap.size w) n).trans hb2)
  clear hb2
  go_wp2_with fail
  refine (HSS.out _).mono ?_
  rintro e w3 ⟨rfl, hb3⟩
  have HB3 := Lib.hid (HB2.out.trans (hb3.mono HB2.out.size))
  clear hb3
  go_wp2_with fail
  refine (HTT.out _).mono ?_
  rintro e w4 ⟨rfl, hb4⟩
  have HB4 := Lib.hid ((HB3.out.alloc HB3.out.size _).trans (hb4.mono (by have := HB3.out.size; simp; omega)))
  clear hb4
  go_wp2
  go_ret2
  exact ⟨rfl, HB4.out⟩

set_option maxHeartbeats 1600000 in
theorem ticksP_up (w : World) (b hz how : Nat) (m k x y r s a2 b2 : Nat) (hb : b ≤ 18446744073709551615) (hT : Tab w) (h1 : 1 ≤ hz) (h2 : hz ≤ 1000000000) (h3 : how ≤ 2) (hv : exactV b = .tuple #[.bool false, .int .u64 (m : Int), .int .i64 ((k : Int)), .int .i64 0]) (hm : m < 9007199254740992) (hP : Two (m * hz) x y) (hk : k ≤ 4096) (hS : Two (shl2 (m * hz) k) r s) (hW : Two (shl2 (m * hz) k / 2 ^ k) a2 b2) (hq : decide (a2 = x ∧ b2 = y) = true) (hl : shl2 (m * hz) k ≤ 4611686018427387903) :
    Calls Tryd.prog 24 #[.float .f64 b, .int .i64 (hz : Int), .int .i64 (how : Int)] w (TwoV w ((shl2 (m * hz) k : Nat), 0)) := by
  have HC := isHzP_any w (hz : Int)
  rw [show hzB (hz : Int) = true from decide_eq_true (by omega)] at HC
  have HCC := Lib.hid HC
  have HX := exactP_any w b hb hT
  rw [hv] at HX
  have HXX := Lib.hid HX
  have qa : decide ((how : Int) < 0) = false := decide_eq_false (by omega)
  have qb : decide ((2 : Int) < (how : Int)) = false := decide_eq_false (by omega)
  have mb : m * hz < 340282366920938463463374607431768211455 := by
    have : m * hz ≤ 9007199254740992 * 1000000000 := Nat.mul_le_mul (by omega) h2
    omega
  have HPP := Lib.hid (fun w => product_at w m hz x y (by omega) (by omega) hP)
  have HSS := Lib.hid (fun w => scale_pos w (m * hz) x y k how r s a2 b2 (by omega) hk hP hS hW hq)
  have HTT := Lib.hid (fun w => tick_ok w (shl2 (m * hz) k) r s hS hl)
  generalize shl2 (m * hz) k = V at *
  have uw : IntKind.u64.wrap (hz : Int) = (hz : Int) := u64_in (by omega) (by omega)
  clear HC HX hv h3 hb hT h1 h2 hm hP mb hk hS hW hq hl
  go_enter Tryd.func24, Tryd.ntmps24
  go_wp2_with fail
  refine HCC.out.mono ?_
  rintro e w1 ⟨rfl, rfl⟩
  go_wp2_with fail
  refine HXX.out.mono ?_
  rintro e w1 ⟨rfl, n, rfl⟩
  go_wp2_with fail
  refine (HPP.out _).mono ?_
  rintro e w2 ⟨rfl, hb2⟩
  have HB2 := Lib.hid ((below_drewN (Below.refl w.heap.size w) n).trans hb2)
  clear hb2
  go_wp2_with fail
  refine (HSS.out _).mono ?_
  rintro e w3 ⟨rfl, hb3⟩
  have HB3 := Lib.hid (HB2.out.trans (hb3.mono HB2.out.size))
  clear hb3
  go_wp2_with fail
  refine (HTT.out _).mono ?_
  rintro e w4 ⟨rfl, hb4⟩
  have HB4 := Lib.hid ((HB3.out.alloc HB3.out.size _).trans (hb4.mono (by have := HB3.out.size; simp; omega)))
  clear hb4
  go_wp2
  go_ret2
  exact ⟨rfl, HB4.out⟩

set_option maxHeartbeats 1600000 in
theorem ticksP_upx (w : World) (b hz how : Nat) (m k x y r s a2 b2 : Nat) (hb : b ≤ 18446744073709551615) (hT : Tab w) (h1 : 1 ≤ hz) (h2 : hz ≤ 1000000000) (h3 : how ≤ 2) (hv : exactV b = .tuple #[.bool false, .int .u64 (m : Int), .int .i64 ((k : Int)), .int .i64 0]) (hm : m < 9007199254740992) (hP : Two (m * hz) x y) (hk : k ≤ 4096) (hS : Two (shl2 (m * hz) k) r s) (hW : Two (shl2 (m * hz) k / 2 ^ k) a2 b2) (hq : decide (a2 = x ∧ b2 = y) = true) (hl : ¬ shl2 (m * hz) k ≤ 4611686018427387903) :
    Calls Tryd.prog 24 #[.float .f64 b, .int .i64 (hz : Int), .int .i64 (how : Int)] w (TwoV w (0, 5)) := by
  have HC := isHzP_any w (hz : Int)
  rw [show hzB (hz : Int) = true from decide_eq_true (by omega)] at HC
  have HCC := Lib.hid HC
  have HX := exactP_any w b hb hT
  rw [hv] at HX
  have HXX := Lib.hid HX
  have qa : decide ((how : Int) < 0) = false := decide_eq_false (by omega)
  have qb : decide ((2 : Int) < (how : Int)) = false := decide_eq_false (by omega)
  have mb : m * hz < 340282366920938463463374607431768211455 := by
    have : m * hz ≤ 9007199254740992 * 1000000000 := Nat.mul_le_mul (by omega) h2
    omega
  have HPP := Lib.hid (fun w => product_at w m hz x y (by omega) (by omega) hP)
  have HSS := Lib.hid (fun w => scale_pos w (m * hz) x y k how r s a2 b2 (by omega) hk hP hS hW hq)
  have HTT := Lib.hid (fun w => tick_no w (shl2 (m * hz) k) r s hS (shl2_lt _ _) hl)
  generalize shl2 (m * hz) k = V at *
  have uw : IntKind.u64.wrap (hz : Int) = (hz : Int) := u64_in (by omega) (by omega)
  clear HC HX hv h3 hb hT h1 h2 hm hP mb hk hS hW hq hl
  go_enter Tryd.func24, Tryd.ntmps24
  go_wp2_with fail
  refine HCC.out.mono ?_
  rintro e w1 ⟨rfl, rfl⟩
  go_wp2_with fail
  refine HXX.out.mono ?_
  rintro e w1 ⟨rfl, n, rfl⟩
  go_wp2_with fail
  refine (HPP.out _).mono ?_
  rintro e w2 ⟨rfl, hb2⟩
  have HB2 := Lib.hid ((below_drewN (Below.refl w.heap.size w) n).trans hb2)
  clear hb2
  go_wp2_with fail
  refine (HSS.out _).mono ?_
  rintro e w3 ⟨rfl, hb3⟩
  have HB3 := Lib.hid (HB2.out.trans (hb3.mono HB2.out.size))
  clear hb3
  go_wp2_with fail
  refine (HTT.out _).mono ?_
  rintro e w4 ⟨rfl, hb4⟩
  have HB4 := Lib.hid ((HB3.out.alloc HB3.out.size _).trans (hb4.mono (by have := HB3.out.size; simp; omega)))
  clear hb4
  go_wp2
  go_ret2
  exact ⟨rfl, HB4.out⟩

set_option maxHeartbeats 1600000 in
theorem ticksP_big (w : World) (b hz how : Nat) (m k x y r s a2 b2 : Nat) (hb : b ≤ 18446744073709551615) (hT : Tab w) (h1 : 1 ≤ hz) (h2 : hz ≤ 1000000000) (h3 : how ≤ 2) (hv : exactV b = .tuple #[.bool false, .int .u64 (m : Int), .int .i64 ((k : Int)), .int .i64 0]) (hm : m < 9007199254740992) (hP : Two (m * hz) x y) (hk : k ≤ 4096) (hS : Two (shl2 (m * hz) k) r s) (hW : Two (shl2 (m * hz) k / 2 ^ k) a2 b2) (hq : decide (a2 = x ∧ b2 = y) = false) :
    Calls Tryd.prog 24 #[.float .f64 b, .int .i64 (hz : Int), .int .i64 (how : Int)] w (TwoV w (0, 5)) := by
  have HC := isHzP_any w (hz : Int)
  rw [show hzB (hz : Int) = true from decide_eq_true (by omega)] at HC
  have HCC := Lib.hid HC
  have HX := exactP_any w b hb hT
  rw [hv] at HX
  have HXX := Lib.hid HX
  have qa : decide ((how : Int) < 0) = false := decide_eq_false (by omega)
  have qb : decide ((2 : Int) < (how : Int)) = false := decide_eq_false (by omega)
  have mb : m * hz < 340282366920938463463374607431768211455 := by
    have : m * hz ≤ 9007199254740992 * 1000000000 := Nat.mul_le_mul (by omega) h2
    omega
  have HPP := Lib.hid (fun w => product_at w m hz x y (by omega) (by omega) hP)
  have HSS := Lib.hid (fun w => scale_big w (m * hz) x y k how r s a2 b2 (by omega) hk hP hS hW hq)
  have uw : IntKind.u64.wrap (hz : Int) = (hz : Int) := u64_in (by omega) (by omega)
  clear HC HX hv h3 hb hT h1 h2 hm hP mb hk hS hW hq
  go_enter Tryd.func24, Tryd.ntmps24
  go_wp2_with fail
  refine HCC.out.mono ?_
  rintro e w1 ⟨rfl, rfl⟩
  go_wp2_with fail
  refine HXX.out.mono ?_
  rintro e w1 ⟨rfl, n, rfl⟩
  go_wp2_with fail
  refine (HPP.out _).mono ?_
  rintro e w2 ⟨rfl, hb2⟩
  have HB2 := Lib.hid ((below_drewN (Below.refl w.heap.size w) n).trans hb2)
  clear hb2
  go_wp2_with fail
  refine (HSS.out _).mono ?_
  rintro e w3 ⟨rfl, hb3⟩
  have HB3 := Lib.hid (HB2.out.trans (hb3.mono HB2.out.size))
  clear hb3
  go_wp2
  go_ret2
  exact ⟨rfl, HB3.out.alloc HB3.out.size _⟩

set_option maxHeartbeats 1600000 in
theorem ticksP_zero (w : World) (b hz how : Nat) (m k x y r s a2 b2 : Nat) (hb : b ≤ 18446744073709551615) (hT : Tab w) (h1 : 1 ≤ hz) (h2 : hz ≤ 1000000000) (h3 : how ≤ 2) (hv : exactV b = .tuple #[.bool true, .int .u64 (m : Int), .int .i64 ((k : Int)), .int .i64 0]) (hm : m = 0) (hP : Two (m * hz) x y) (hk : k ≤ 4096) (hS : Two (shl2 (m * hz) k) r s) (hW : Two (shl2 (m * hz) k / 2 ^ k) a2 b2) (hq : decide (a2 = x ∧ b2 = y) = true) (hl : shl2 (m * hz) k ≤ 4611686018427387903) :
    Calls Tryd.prog 24 #[.float .f64 b, .int .i64 (hz : Int), .int .i64 (how : Int)] w (TwoV w ((shl2 (m * hz) k : Nat), 0)) := by
  have HC := isHzP_any w (hz : Int)
  rw [show hzB (hz : Int) = true from decide_eq_true (by omega)] at HC
  have HCC := Lib.hid HC
  have HX := exactP_any w b hb hT
  rw [hv] at HX
  have HXX := Lib.hid HX
  have qa : decide ((how : Int) < 0) = false := decide_eq_false (by omega)
  have qb : decide ((2 : Int) < (how : Int)) = false := decide_eq_false (by omega)
  have mb : m * hz < 340282366920938463463374607431768211455 := by
    have : m * hz ≤ 9007199254740992 * 1000000000 := Nat.mul_le_mul (by omega) h2
    omega
  have HPP := Lib.hid (fun w => product_at w m hz x y (by omega) (by omega) hP)
  have HSS := Lib.hid (fun w => scale_pos w (m * hz) x y k how r s a2 b2 (by omega) hk hP hS hW hq)
  have HTT := Lib.hid (fun w => tick_ok w (shl2 (m * hz) k) r s hS hl)
  generalize shl2 (m * hz) k = V at *
  have uw : IntKind.u64.wrap (hz : Int) = (hz : Int) := u64_in (by omega) (by omega)
  have qm : ((m : Int) != 0) = false := by simp; omega
  have qm2 : ((m : Int) == 0) = true := by simp; omega
  clear HC HX hv h3 hb hT h1 h2 hm hP mb hk hS hW hq hl
  go_enter Tryd.func24, Tryd.ntmps24
  go_wp2_with fail
  refine HCC.out.mono ?_
  rintro e w1 ⟨rfl, rfl⟩
  go_wp2_with fail
  refine HXX.out.mono ?_
  rintro e w1 ⟨rfl, n, rfl⟩
  go_wp2_with fail
  refine (HPP.out _).mono ?_
  rintro e w2 ⟨rfl, hb2⟩
  have HB2 := Lib.hid ((below_drewN (Below.refl w.heap.size w) n).trans hb2)
  clear hb2
  go_wp2_with fail
  refine (HSS.out _).mono ?_
  rintro e w3 ⟨rfl, hb3⟩
  have HB3 := Lib.hid (HB2.out.trans (hb3.mono HB2.out.size))
  clear hb3
  go_wp2_with fail
  refine (HTT.out _).mono ?_
  rintro e w4 ⟨rfl, hb4⟩
  have HB4 := Lib.hid ((HB3.out.alloc HB3.out.size _).trans (hb4.mono (by have := HB3.out.size; simp; omega)))
  clear hb4
  go_wp2
  go_ret2
  exact ⟨rfl, HB4.out⟩

theorem shl2_fit {v k : Nat} (h : v * 2 ^ k < 340282366920938463463374607431768211456) : shl2 v k = v * 2 ^ k := Nat.mod_eq_of_lt h
theorem scale_q {v k x y a b : Nat} (hP : Two v x y) (hW : Two (shl2 v k / 2 ^ k) a b) : decide (a = x ∧ b = y) = decide (v * 2 ^ k < 340282366920938463463374607431768211456) := by
  apply decide_eq_decide.2
  constructor
  · rintro ⟨e1, e2⟩
    have e := Two.eq hP hW e1.symm e2.symm
    have h1 := shl2_lt v k
    have h2 : v * 2 ^ k ≤ shl2 v k := by
      have := Nat.div_mul_le_self (shl2 v k) (2 ^ k)
      rw [← e] at this
      exact this
    omega
  · intro h
    rw [shl2_fit h, Nat.mul_div_cancel _ (pow_pos2 k)] at hW
    exact ⟨hW.1.symm.trans hP.1, hW.2.symm.trans hP.2⟩

theorem ticksP_in (w : World) (b hz how : Nat) (hb : b ≤ 18446744073709551615) (hT : Tab w) (h1 : 1 ≤ hz) (h2 : hz ≤ 1000000000) (h3 : how ≤ 2) :
    Calls Tryd.prog 24 #[.float .f64 b, .int .i64 (hz : Int), .int .i64 (how : Int)] w (TwoV w (ticksV b hz how)) := by
  have ha : ticksArg hz how = false := by unfold ticksArg; exact decide_eq_false (by omega)
  have e2 : (hz : Int).toNat = hz := by omega
  have e3 : (how : Int).toNat = how := by omega
  by_cases h4 : kindB b = 4
  · rw [ticksV_nan ha h4]
    exact ticksP_fault w b hz how 4 false 0 0 hb hT h1 h2 h3 (by unfold exactV; rw [if_pos h4]; rfl) (.inl rfl)
  by_cases h5 : kindB b = 3
  · rw [ticksV_out ha h4 (by unfold ticksOut; exact decide_eq_true (.inl h5))]
    exact ticksP_fault w b hz how 5 false 0 0 hb hT h1 h2 h3 (by unfold exactV; rw [if_neg h4, if_pos h5]; rfl) (.inr rfl)
  have hlt : szB b < 9218868437227405312 := by
    rcases Nat.lt_or_ge (szB b) 9218868437227405312 with h | h
    · exact h
    · rcases Nat.eq_or_lt_of_le h with h | h
      · exact absurd (kindS_3 h.symm) h5
      · exact absurd (kindS_4 h) h4
  have hml := manS_lt (szB b)
  by_cases h0 : manS (szB b) = 0
  · have hv : exactV b = .tuple #[.bool (negB b), .int .u64 0, .int .i64 0, .int .i64 0] := by unfold exactV; rw [if_neg h4, if_neg h5, if_pos h0]
    have hs0 : szB b = 0 := by unfold manS at h0; split at h0 <;> omega
    have hk0 : kindB b = 0 := by unfold kindB; rw [hs0]; rfl
    have ho : ticksOut b = false := by unfold ticksOut; exact decide_eq_false (by omega)
    have hn : ticksN b hz how = 0 := by
      rw [ticksN_odd, h0]
      unfold tickM
      have : upN (oddM 0 * hz) (expS (szB b) + tz 64 0) = 0 * dnN (expS (szB b) + tz 64 0) := by
        show upN (0 * hz) _ = _
        unfold upN; rw [Nat.zero_mul, Nat.zero_mul, Nat.zero_mul]
      rw [this]
      exact roundV_whole (dnN_pos _) how
    rw [ticksV_ok ha h4 ho (by rw [e2, e3, hn]; omega), e2, e3, hn]
    have hP : Two (0 * hz) 0 0 := by rw [Nat.zero_mul]; exact ⟨rfl, rfl⟩
    have hS : Two (shl2 (0 * hz) 0) 0 0 := by rw [Nat.zero_mul]; exact ⟨rfl, rfl⟩
    have hW : Two (shl2 (0 * hz) 0 / 2 ^ 0) 0 0 := by rw [Nat.zero_mul]; exact ⟨rfl, rfl⟩
    have hz0 : shl2 (0 * hz) 0 = 0 := by rw [Nat.zero_mul]; rfl
    rcases hn : negB b with _ | _
    · rw [hn] at hv
      have := ticksP_up w b hz how 0 0 0 0 0 0 0 0 hb hT h1 h2 h3 hv (by omega) hP (by omega) hS hW rfl (by rw [hz0]; omega)
      rwa [hz0] at this
    · rw [hn] at hv
      have := ticksP_zero w b hz how 0 0 0 0 0 0 0 0 hb hT h1 h2 h3 hv rfl hP (by omega) hS hW rfl (by rw [hz0]; omega)
      rwa [hz0] at this
  · obtain ⟨m, hm⟩ : ∃ m, m = oddM (manS (szB b)) := ⟨_, rfl⟩
    obtain ⟨e, he⟩ : ∃ e : Int, e = expS (szB b) + tz 64 (manS (szB b)) := ⟨_, rfl⟩
    have hv : exactV b = .tuple #[.bool (negB b), .int .u64 (m : Int), .int .i64 e, .int .i64 0] := by unfold exactV; rw [if_neg h4, if_neg h5, if_neg h0, hm, he]
    have hk0 : 0 < kindB b := by
      rcases Nat.eq_zero_or_pos (kindB b) with h | h
      · exfalso
        apply h0
        have : szB b = 0 := by
          unfold kindB kindS at h
          split at h
          · assumption
          · repeat (split at h; · omega)
            omega
        rw [this]; rfl
      · exact h
    have hmp : 0 < m := by
      have h6 := tz_spec 64 (manS (szB b)) (by omega) (by omega)
      rw [hm]
      show 0 < manS (szB b) / 2 ^ tz 64 (manS (szB b))
      have := h6.1
      generalize manS (szB b) / 2 ^ tz 64 (manS (szB b)) = z at this
      omega
    have hmle : m < 9007199254740992 := by rw [hm]; exact Nat.lt_of_le_of_lt (Nat.div_le_self _ _) hml
    have heb := expS_bd (szB_lt b)
    have htz := tz_lt (m := manS (szB b)) (by omega) (by omega)
    have hN : ticksN b hz how = tickM m e hz how := by rw [ticksN_odd, hm, he]
    rcases hn : negB b with _ | _
    · rw [hn] at hv
      have ho : ticksOut b = false := by unfold ticksOut; rw [hn]; exact decide_eq_false (by simp; omega)
      obtain ⟨x, y, hP⟩ := Two.of (m * hz)
      have mb : m * hz < 340282366920938463463374607431768211455 := by
        have : m * hz ≤ 9007199254740992 * 1000000000 := Nat.mul_le_mul (by omega) h2
        omega
      rcases Int.lt_or_le e 0 with hneg | hpos
      · obtain ⟨j, hj⟩ : ∃ j : Nat, e = -((j : Int) + 1) := ⟨(-e - 1).toNat, by omega⟩
        have hN2 : ticksN b hz how = roundV (m * hz) (2 ^ (j + 1)) how := by rw [hN, hj]; exact tick_dn
        obtain ⟨r, s, hS⟩ := Two.of (ticksN b hz how)
        rw [hj] at hv
        by_cases hl : ticksN b hz how ≤ 4611686018427387903
        · rw [ticksV_ok ha h4 ho (by rw [e2, e3]; exact hl), e2, e3]
          exact ticksP_dn w b hz how m j x y r s _ hb hT h1 h2 h3 hv hmle hP (by omega) hS hN2.symm hl
        · rw [ticksV_big ha h4 ho (by rw [e2, e3]; exact hl)]
          exact ticksP_dnx w b hz how m j x y r s _ hb hT h1 h2 h3 hv hmle hP (by omega) hS hN2.symm hl
      · obtain ⟨k, hk⟩ : ∃ k : Nat, e = (k : Int) := ⟨e.toNat, by omega⟩
        have hN2 : ticksN b hz how = m * hz * 2 ^ k := by rw [hN, hk]; exact tick_up
        obtain ⟨r, s, hS⟩ := Two.of (shl2 (m * hz) k)
        obtain ⟨a2, b2, hW⟩ := Two.of (shl2 (m * hz) k / 2 ^ k)
        have hq := scale_q hP hW
        rw [hk] at hv
        by_cases hf : m * hz * 2 ^ k < 340282366920938463463374607431768211456
        · rw [decide_eq_true hf] at hq
          have hsv := shl2_fit hf
          by_cases hl : ticksN b hz how ≤ 4611686018427387903
          · rw [ticksV_ok ha h4 ho (by rw [e2, e3]; exact hl), e2, e3, hN2, ← hsv]
            exact ticksP_up w b hz how m k x y r s a2 b2 hb hT h1 h2 h3 hv hmle hP (by omega) hS hW hq (by rw [hsv, ← hN2]; exact hl)
          · rw [ticksV_big ha h4 ho (by rw [e2, e3]; exact hl)]
            exact ticksP_upx w b hz how m k x y r s a2 b2 hb hT h1 h2 h3 hv hmle hP (by omega) hS hW hq (by rw [hsv, ← hN2]; exact hl)
        · rw [decide_eq_false hf] at hq
          rw [ticksV_big ha h4 ho (by rw [e2, e3, hN2]; omega)]
          exact ticksP_big w b hz how m k x y r s a2 b2 hb hT h1 h2 h3 hv hmle hP (by omega) hS hW hq
    · rw [hn] at hv
      rw [ticksV_out ha h4 (by unfold ticksOut; exact decide_eq_true (.inr ⟨hk0, hn⟩))]
      exact ticksP_neg w b hz how m e hb hT h1 h2 h3 hv hmp

theorem ticksP_any (w : World) (b : Nat) (hz how : Int) (hb : b ≤ 18446744073709551615) (hT : Tab w) :
    Calls Tryd.prog 24 #[.float .f64 b, .int .i64 hz, .int .i64 how] w (TwoV w (ticksV b hz how)) := by
  by_cases h1 : hz < 1 ∨ 1000000000 < hz
  · rw [ticksV_arg (by unfold ticksArg; exact decide_eq_true (by omega))]
    exact ticksP_arg1 w b hz how (decide_eq_false (by omega))
  have hh : hzB hz = true := decide_eq_true (by omega)
  by_cases h2 : how < 0
  · rw [ticksV_arg (by unfold ticksArg; exact decide_eq_true (by omega))]
    exact ticksP_arg2 w b hz how hh (decide_eq_true h2)
  by_cases h3 : 2 < how
  · rw [ticksV_arg (by unfold ticksArg; exact decide_eq_true (by omega))]
    exact ticksP_arg3 w b hz how hh (decide_eq_false h2) (decide_eq_true h3)
  obtain ⟨a, rfl⟩ : ∃ a : Nat, hz = (a : Int) := ⟨hz.toNat, by omega⟩
  obtain ⟨c, rfl⟩ : ∃ c : Nat, how = (c : Int) := ⟨how.toNat, by omega⟩
  exact ticksP_in w b a c hb hT (by omega) (by omega) (by omega)
end Go.Proofs.YtafboimlchjnaaaDoor
