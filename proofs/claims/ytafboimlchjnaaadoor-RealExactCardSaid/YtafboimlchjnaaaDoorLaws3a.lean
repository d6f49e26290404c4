/- The walks of RealKinds, RealTicks, RealRatios, RealOrders. -/
import Derived.Test.YtafboimlchjnaaaDoorAwake3
namespace Go.Proofs.YtafboimlchjnaaaDoor
open Go.RowKit
set_option maxRecDepth 100000

theorem exactV_shape (b : Nat) : ∃ (s : Bool) (m : Nat) (e f : Int), exactV b = .tuple #[.bool s, .int .u64 (m : Int), .int .i64 e, .int .i64 f] := by
  unfold exactV
  split
  · exact ⟨_, 0, _, _, rfl⟩
  · split
    · exact ⟨_, 0, _, _, rfl⟩
    · split
      · exact ⟨_, 0, _, _, rfl⟩
      · exact ⟨_, _, _, _, rfl⟩

set_option maxHeartbeats 400000 in
theorem of3_any (w : World) (b : Nat) : Calls Tryd.prog 16 #[.int .u64 (b : Int)] w fun e w' => e = .returned (.float .f64 b) ∧ w = w' := by
  go_enter Tryd.func16, Tryd.ntmps16
  go_wp2
  rw [run_callFunc_extern Tryd.func52 (by kernel_rfl) (by kernel_rfl) (by kernel_rfl) (e := Extern.MathFloatBits.float64frombits) (by kernel_rfl), run_f64from]
  simp only [Result.andThen]
  rw [Oper.upon_value]
  go_wp2
  go_ret
  exact ⟨rfl, rfl⟩

set_option maxHeartbeats 1600000 in
theorem realKinds_n (w : World) (b : Nat) (hb : b ≤ 18446744073709551615) (hT : Tab w) : Calls Tryd.prog 3 #[.int .u64 (b : Int)] w fun e w' => e = .returned (.bool true) ∧ Below w.heap.size w w' := by
  obtain ⟨s, m, x, f, hs⟩ := exactV_shape b
  have HT := Lib.hid hT
  have HO := Lib.hid (fun w => of3_any w b)
  have H1 := Lib.hid (fun w hT => exactP_any w b hb hT)
  have H2 := Lib.hid (fun w => exact3_any w b hb)
  have HA := Lib.hid (fun w hT => awake3_any w hT)
  have HK := Lib.hid (fun w => kindP_any w b hb)
  have HK3 := Lib.hid (fun w => kind3_any w b hb)
  have HM := Lib.hid (fun w => minusP_any w b hb)
  have HM3 := Lib.hid (fun w => minus3_any w b hb)
  rw [hs] at H1 H2
  clear hT hs
  generalize kindB b = kb at *
  generalize negB b = nb at *
  go_enter Tryd.func3, Tryd.ntmps3
  go_wp2_with fail
  refine (HO.out _).mono ?_
  rintro e w1 ⟨rfl, rfl⟩
  go_wp2_with fail
  refine (H1.out _ HT.out).mono ?_
  rintro e w1 ⟨rfl, n, rfl⟩
  go_wp2_with fail
  refine (H2.out _).mono ?_
  rintro e w1 ⟨rfl, rfl⟩
  go_wp2_with fail
  refine (HA.out _ (HT.out.drewN n)).mono ?_
  rintro e w1 ⟨rfl, hb1⟩
  have HB1 := Lib.hid ((below_drewN (Below.refl w.heap.size w) n).trans hb1)
  clear hb1
  go_wp2_with fail
  refine (HK.out _).mono ?_
  rintro e w2 ⟨rfl, rfl⟩
  go_wp2_with fail
  refine (HK3.out _).mono ?_
  rintro e w2 ⟨rfl, rfl⟩
  go_wp2_with fail
  refine (HM.out _).mono ?_
  rintro e w2 ⟨rfl, rfl⟩
  go_wp2_with fail
  refine (HM3.out _).mono ?_
  rintro e w2 ⟨rfl, rfl⟩
  go_wp2
  go_ret
  exact ⟨rfl, HB1.out⟩

theorem u64_nat {a : Int} (h : (Lit.int .u64 a).wf = true) : ∃ n : Nat, a = (n : Int) ∧ n ≤ 18446744073709551615 := by
  have := bounds_u64 h
  exact ⟨a.toNat, by omega, by omega⟩
theorem realKinds_walk (a : Int) (w : World) (wa : (Lit.int .u64 a).wf = true) (hT : Tab w) : Calls Tryd.prog 3 #[.int .u64 a] w fun e w' => e = .returned (.bool true) ∧ Below w.heap.size w w' := by
  obtain ⟨n, rfl, hn⟩ := u64_nat wa
  exact realKinds_n w n hn hT
end Go.Proofs.YtafboimlchjnaaaDoor
