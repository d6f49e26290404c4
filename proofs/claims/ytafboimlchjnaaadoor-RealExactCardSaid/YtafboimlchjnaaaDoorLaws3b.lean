/- The walks of RealTicks, RealRatios, RealOrders. -/
import Derived.Test.YtafboimlchjnaaaDoorLaws3a
namespace Go.Proofs.YtafboimlchjnaaaDoor
open Go.RowKit
set_option maxRecDepth 100000

theorem dticks_any (w : World) (b : Nat) (hz how : Int) (hb : b ≤ 18446744073709551615) : Calls Tryd.prog 25 #[.float .f64 b, .int .i64 hz, .int .i64 how] w (TwoV w (ticksV b hz how)) := by
  rcases ha : ticksArg hz how with _ | _
  · have h := of_decide_eq_false ha
    obtain ⟨a, rfl⟩ : ∃ a : Nat, hz = (a : Int) := ⟨hz.toNat, by omega⟩
    obtain ⟨c, rfl⟩ : ∃ c : Nat, how = (c : Int) := ⟨how.toNat, by omega⟩
    exact dticks_in w b a c hb (by omega) (by omega) (by omega)
  · exact dticks_arg w b hz how ha

def Yes (w : World) (e : Ending) (w' : World) : Prop := e = .returned (.bool true) ∧ Below w.heap.size w w'

set_option maxHeartbeats 1600000 in
theorem realTicks_n (w : World) (b : Nat) (hz how : Int) (hb : b ≤ 18446744073709551615) (hT : Tab w) : Calls Tryd.prog 4 #[.int .u64 (b : Int), .int .i64 hz, .int .i64 how] w fun e w' => e = .returned (.bool true) ∧ Below w.heap.size w w' := by
  obtain ⟨v1, v2, hv⟩ : ∃ v1 v2, ticksV b hz how = (v1, v2) := ⟨_, _, rfl⟩
  have HT := Lib.hid hT
  have HO := Lib.hid (fun w => of3_any w b)
  have H1 := Lib.hid (fun w hT => ticksP_any w b hz how hb hT)
  have H2 := Lib.hid (fun w => dticks_any w b hz how hb)
  have HA := Lib.hid (fun w hT => awake3_any w hT)
  rw [hv] at H1 H2
  clear hT hv
  go_enter Tryd.func4, Tryd.ntmps4
  go_wp2_with fail
  refine (HO.out _).mono ?_
  rintro e w1 ⟨rfl, rfl⟩
  go_wp2_with fail
  refine (H1.out _ HT.out).mono ?_
  rintro e w1 ⟨rfl, hb1⟩
  have HT1 := Lib.hid (HT.out.below hb1)
  have HB1 := Lib.hid hb1
  clear hb1
  go_wp2_with fail
  refine (HO.out _).mono ?_
  rintro e w2 ⟨rfl, rfl⟩
  go_wp2_with fail
  refine (H2.out _).mono ?_
  rintro e w2 ⟨rfl, hb2⟩
  have HT2 := Lib.hid (HT1.out.below hb2)
  have HB2 := Lib.hid (HB1.out.trans (hb2.mono HB1.out.size))
  clear hb2
  go_wp2_with fail
  refine (HA.out _ HT2.out).mono ?_
  rintro e w3 ⟨rfl, hb3⟩
  have HB3 := Lib.hid (HB2.out.trans (hb3.mono HB2.out.size))
  clear hb3
  go_wp2
  go_ret
  exact ⟨rfl, HB3.out⟩
theorem realTicks_walk (a hz how : Int) (w : World) (wa : (Lit.int .u64 a).wf = true) (_wb : (Lit.int .i64 hz).wf = true) (_wc : (Lit.int .i64 how).wf = true) (hT : Tab w) : Calls Tryd.prog 4 #[.int .u64 a, .int .i64 hz, .int .i64 how] w fun e w' => e = .returned (.bool true) ∧ Below w.heap.size w w' := by
  obtain ⟨n, rfl, hn⟩ := u64_nat wa
  exact realTicks_n w n hz how hn hT

theorem ratioB_le {a b : Int} (h1 : -9223372036854775808 ≤ a) (h2 : a ≤ 9223372036854775807) (h3 : -9223372036854775808 ≤ b) (h4 : b ≤ 9223372036854775807) (h0 : b ≠ 0) : ratioB a b ≤ 18446744073709551615 := by
  have h := nearB_le (N := a.natAbs) (M := b.natAbs) (by omega) (by omega) (by omega)
  unfold ratioB
  split
  · unfold turnB; split <;> omega
  · omega
theorem ratioV_shape {a b : Int} (h1 : -9223372036854775808 ≤ a) (h2 : a ≤ 9223372036854775807) (h3 : -9223372036854775808 ≤ b) (h4 : b ≤ 9223372036854775807) : ∃ x : Nat, ∃ f : Int, x ≤ 18446744073709551615 ∧ ratioV a b = .tuple #[.float .f64 x, .int .i64 f] := by
  unfold ratioV
  split
  · exact ⟨0, 5, by omega, rfl⟩
  · rename_i h
    exact ⟨_, 0, ratioB_le h1 h2 h3 h4 h, rfl⟩
theorem secV_shape {a b : Int} (h1 : -9223372036854775808 ≤ a) (h2 : a ≤ 9223372036854775807) (h3 : -9223372036854775808 ≤ b) (h4 : b ≤ 9223372036854775807) : ∃ x : Nat, ∃ f : Int, x ≤ 18446744073709551615 ∧ secV a b = .tuple #[.float .f64 x, .int .i64 f] := by
  unfold secV
  split
  · exact ⟨0, 1, by omega, rfl⟩
  · exact ⟨_, 0, ratioB_le h1 h2 h3 h4 (by omega), rfl⟩

set_option maxHeartbeats 1600000 in
theorem realRatios_walk (a b : Int) (w : World) (wa : (Lit.int .i64 a).wf = true) (wb : (Lit.int .i64 b).wf = true) (hT : Tab w) : Calls Tryd.prog 5 #[.int .i64 a, .int .i64 b] w fun e w' => e = .returned (.bool true) ∧ Below w.heap.size w w' := by
  obtain ⟨a1, a2⟩ := bounds_i64 wa
  obtain ⟨b1, b2⟩ := bounds_i64 wb
  obtain ⟨x, f, hx, hv⟩ := secV_shape a1 a2 b1 b2
  obtain ⟨y, g, hy, hu⟩ := ratioV_shape a1 a2 b1 b2
  have HT := Lib.hid hT
  have H1 := Lib.hid (fun w => secP_any w a b a1 a2 b1 b2)
  have H2 := Lib.hid (fun w => dsec3_any w a b a1 a2 b1 b2)
  have H3 := Lib.hid (fun w => ratioP_any w a b a1 a2 b1 b2)
  have H4 := Lib.hid (fun w => dratio3_any w a b a1 a2 b1 b2)
  have HA := Lib.hid (fun w hT => awake3_any w hT)
  have HS := Lib.hid (fun w => same3_any w x x hx hx)
  have HS2 := Lib.hid (fun w => same3_any w y y hy hy)
  rw [sameB_refl] at HS HS2
  rw [hv] at H1 H2
  rw [hu] at H3 H4
  clear hT hv hu wa wb a1 a2 b1 b2 hx hy
  go_enter Tryd.func5, Tryd.ntmps5
  go_wp2_with fail
  refine (H1.out _).mono ?_
  rintro e w1 ⟨rfl, n, rfl⟩
  go_wp2_with fail
  refine (H2.out _).mono ?_
  rintro e w2 ⟨rfl, hb2⟩
  have HT2 := Lib.hid ((HT.out.drewN n).below hb2)
  have HB2 := Lib.hid ((below_drewN (Below.refl w.heap.size w) n).trans hb2)
  clear hb2
  go_wp2_with fail
  refine (H3.out _).mono ?_
  rintro e w3 ⟨rfl, n2, rfl⟩
  go_wp2_with fail
  refine (H4.out _).mono ?_
  rintro e w3 ⟨rfl, hb3⟩
  have HT3 := Lib.hid ((HT2.out.drewN n2).below hb3)
  have HB3 := Lib.hid ((below_drewN HB2.out n2).trans (hb3.mono HB2.out.size))
  clear hb3
  go_wp2_with fail
  refine (HA.out _ HT3.out).mono ?_
  rintro e w4 ⟨rfl, hb4⟩
  have HB4 := Lib.hid (HB3.out.trans (hb4.mono HB3.out.size))
  clear hb4
  go_wp2_with fail
  refine (HS.out _).mono ?_
  rintro e w5 ⟨rfl, rfl⟩
  go_wp2_with fail
  refine (HS2.out _).mono ?_
  rintro e w5 ⟨rfl, rfl⟩
  go_wp2
  go_ret
  exact ⟨rfl, HB4.out⟩

theorem ordB_tri {a b c : Nat} : (ordB a b ≤ 0 → ordB b c ≤ 0 → ordB a c ≤ 0) ∧ (ordB a b < 0 → ordB b c ≤ 0 → ordB a c = -1) := by
  unfold ordB
  constructor
  · intro h1 h2
    repeat' split
    all_goals (repeat' split at h1) <;> (repeat' split at h2) <;> omega
  · intro h1 h2
    repeat' split
    all_goals (repeat' split at h1) <;> (repeat' split at h2) <;> omega
theorem leastB_le {a b : Nat} (ha : a ≤ 18446744073709551615) (hb : b ≤ 18446744073709551615) : leastB a b ≤ 18446744073709551615 := by unfold leastB; split <;> assumption
theorem mostB_le {a b : Nat} (ha : a ≤ 18446744073709551615) (hb : b ≤ 18446744073709551615) : mostB a b ≤ 18446744073709551615 := by unfold mostB; repeat' split <;> try assumption

set_option maxHeartbeats 3200000 in
theorem realOrders_n (w : World) (a b c : Nat) (ha : a ≤ 18446744073709551615) (hb : b ≤ 18446744073709551615) (hc : c ≤ 18446744073709551615) (hT : Tab w) : Calls Tryd.prog 6 #[.int .u64 (a : Int), .int .u64 (b : Int), .int .u64 (c : Int)] w fun e w' => e = .returned (.bool true) ∧ Below w.heap.size w w' := by
  obtain ⟨l, hl1, hl2, HL⟩ : ∃ l, l ≤ 18446744073709551615 ∧ sameB l (leastB a b) = true ∧ ∀ w, Calls Tryd.prog 34 #[.float .f64 a, .float .f64 b] w fun e w' => e = .returned (.float .f64 l) ∧ w = w' := leastP_all a b ha hb
  obtain ⟨m, hm1, hm2, HM⟩ : ∃ l, l ≤ 18446744073709551615 ∧ sameB l (mostB a b) = true ∧ ∀ w, Calls Tryd.prog 36 #[.float .f64 a, .float .f64 b] w fun e w' => e = .returned (.float .f64 l) ∧ w = w' := mostP_all a b ha hb
  have HT := Lib.hid hT
  have HA := Lib.hid (fun w hT => awake3_any w hT)
  have F1 := Lib.hid (fun w => of3_any w a)
  have F2 := Lib.hid (fun w => of3_any w b)
  have F3 := Lib.hid (fun w => of3_any w c)
  have O1 := Lib.hid (fun w => orderP_any w a b ha hb)
  have O2 := Lib.hid (fun w => orderP_any w b c hb hc)
  have O3 := Lib.hid (fun w => orderP_any w a c ha hc)
  have O4 := Lib.hid (fun w => orderP_any w b a hb ha)
  have D1 := Lib.hid (fun w => order3_any w a b ha hb)
  have S1 := Lib.hid (fun w => sameP_any w a b ha hb)
  have S2 := Lib.hid (fun w => same3_any w a b ha hb)
  have HLL := Lib.hid HL
  have HMM := Lib.hid HM
  have DL := Lib.hid (fun w => least3_any w a b ha hb)
  have DM := Lib.hid (fun w => most3_any w a b ha hb)
  have SL := Lib.hid (fun w => same3_any w l (leastB a b) hl1 (leastB_le ha hb))
  have SM := Lib.hid (fun w => same3_any w m (mostB a b) hm1 (mostB_le ha hb))
  rw [hl2] at SL
  rw [hm2] at SM
  have hsw := ordB_swap a b
  rw [hsw] at O4
  have hso := same_ord a b
  rw [hso] at S1 S2
  have HTR := Lib.hid (ordB_tri (a := a) (b := b) (c := c))
  have HP := Lib.hid (ordB_bd a b)
  have HQ := Lib.hid (ordB_bd b c)
  have HR := Lib.hid (ordB_bd a c)
  clear hsw hso hT HL HM hl1 hl2 hm1 hm2 ha hb hc
  generalize ordB a b = p at *
  generalize ordB b c = q at *
  generalize ordB a c = r at *
  generalize leastB a b = lb at *
  generalize mostB a b = mb at *
  go_enter Tryd.func6, Tryd.ntmps6
  go_wp2_with fail
  refine (F1.out _).mono ?_
  rintro e w1 ⟨rfl, rfl⟩
  go_wp2_with fail
  refine (F2.out _).mono ?_
  rintro e w1 ⟨rfl, rfl⟩
  go_wp2_with fail
  refine (F3.out _).mono ?_
  rintro e w1 ⟨rfl, rfl⟩
  go_wp2_with fail
  refine (O1.out _).mono ?_
  rintro e w1 ⟨rfl, rfl⟩
  go_wp2_with fail
  refine (O2.out _).mono ?_
  rintro e w1 ⟨rfl, rfl⟩
  go_wp2_with fail
  refine (O3.out _).mono ?_
  rintro e w1 ⟨rfl, rfl⟩
  go_wp2_with fail
  refine (HA.out _ HT.out).mono ?_
  rintro e w1 ⟨rfl, hb1⟩
  have HB1 := Lib.hid hb1
  clear hb1
  go_wp2_with fail
  refine (D1.out _).mono ?_
  rintro e w2 ⟨rfl, rfl⟩
  go_wp2_with fail
  refine (S1.out _).mono ?_
  rintro e w2 ⟨rfl, rfl⟩
  go_wp2_with fail
  refine (S2.out _).mono ?_
  rintro e w2 ⟨rfl, rfl⟩
  go_wp2_with fail
  refine (HLL.out _).mono ?_
  rintro e w2 ⟨rfl, rfl⟩
  go_wp2_with fail
  refine (DL.out _).mono ?_
  rintro e w2 ⟨rfl, rfl⟩
  go_wp2_with fail
  refine (SL.out _).mono ?_
  rintro e w2 ⟨rfl, rfl⟩
  go_wp2_with fail
  refine (HMM.out _).mono ?_
  rintro e w2 ⟨rfl, rfl⟩
  go_wp2_with fail
  refine (DM.out _).mono ?_
  rintro e w2 ⟨rfl, rfl⟩
  go_wp2_with fail
  refine (SM.out _).mono ?_
  rintro e w2 ⟨rfl, rfl⟩
  rcases HP.out with rfl | rfl | rfl <;> rcases HQ.out with rfl | rfl | rfl <;> rcases HR.out with rfl | rfl | rfl <;> first
    | (exfalso; have := HTR.out; omega)
    | (clear HTR HP HQ HR; go_wp2_with fail; refine (O4.out _).mono ?_; rintro e w2 ⟨rfl, rfl⟩; go_wp2_with fail; refine (S1.out _).mono ?_; rintro e w2 ⟨rfl, rfl⟩; go_wp2; go_ret; exact ⟨rfl, HB1.out⟩)
theorem realOrders_walk (a b c : Int) (w : World) (wa : (Lit.int .u64 a).wf = true) (wb : (Lit.int .u64 b).wf = true) (wc : (Lit.int .u64 c).wf = true) (hT : Tab w) : Calls Tryd.prog 6 #[.int .u64 a, .int .u64 b, .int .u64 c] w fun e w' => e = .returned (.bool true) ∧ Below w.heap.size w w' := by
  obtain ⟨a, rfl, ha⟩ := u64_nat wa
  obtain ⟨b, rfl, hb⟩ := u64_nat wb
  obtain ⟨c, rfl, hc⟩ := u64_nat wc
  exact realOrders_n w a b c ha hb hc hT
end Go.Proofs.YtafboimlchjnaaaDoor
