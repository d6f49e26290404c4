/- The laws GcraOnce, GcraParts, GcraIdle, GcraWaits: their walks. -/
import Derived.Test.YthigbhhhhebjeaaLaw5b
namespace Go.Proofs.Ythigbhhhhebjeaa
open Go.RowKit
set_option maxRecDepth 100000

theorem clamp_nat (n : Int) : ∃ k : Nat, clampV n = (k : Int) ∧ k ≤ 4611686018427387903 := ⟨(clampV n).toNat, by have := clampV_bd n; omega, by have := clampV_bd n; omega⟩
theorem clamp_one (n : Int) : ∃ k : Nat, max (clampV n) 1 = (k : Int) ∧ 1 ≤ k ∧ k ≤ 4611686018427387903 := ⟨(max (clampV n) 1).toNat, by have := clampV_bd n; omega, by have := clampV_bd n; omega, by have := clampV_bd n; omega⟩
theorem dwithV_zero {T Tau : Nat} (h1 : 1 ≤ T) (h2 : T ≤ 4611686018427387903) (h3 : Tau ≤ 4611686018427387903) : dwithV (T : Int) (Tau : Int) 0 = .tuple #[.int .i64 ((Tau / T + 1 : Nat) : Int), .int .i64 0] := by
  unfold dwithV
  rw [if_neg (by rw [checkV_tick h1 h2 h3]; decide)]
  unfold withV; simp

set_option maxHeartbeats 1600000 in
theorem gcraOnce_lo (T Tau x : Int) (w : World) (t u now p q : Nat) (ht1 : 1 ≤ t) (hn2 : now ≤ 4611686018427387903) (hql : q ≤ 4611686018427387903)
    (e1 : ((4611686018427387903 : Int) - (now : Int)).tdiv (t : Int) = (q : Int)) (hpq : q < p)
    (HA : Hid (∀ w, Calls Try.prog 17 #[] w (ValEnd w (.bool true))))
    (HC : Hid (∀ w, Calls Try.prog 26 #[.agg #[.int .i64 T, .int .i64 Tau], .int .i64 x, .int .i64 0, .int .i64 0] w (ValEnd w (.tuple #[.agg #[.int .i64 (t : Int), .int .i64 (u : Int)], .int .i64 (now : Int), .int .i64 (clampV 0), .int .i64 (clampV 0)]))))
    (HL : Hid (∀ w, Calls Try.prog 19 #[.agg #[.int .i64 (t : Int), .int .i64 (u : Int)], .int .i64 0, .int .i64 (now : Int)] w (ValEnd w (.tuple #[.int .i64 ((q : Nat) : Int), .int .i64 0]))))
    (HO : Hid (∀ w, Calls Try.prog 30 #[.agg #[.int .i64 (t : Int), .int .i64 (u : Int)]] w (ValEnd w (.tuple #[.int .i64 (p : Int), .int .i64 0])))) :
    Calls Try.prog 10 #[.agg #[.int .i64 T, .int .i64 Tau], .int .i64 x] w (ValEnd w (.bool true)) := by
  have e2 : wrap64 (q : Int) = (q : Int) := by unfold wrap64; omega
  have e4 : IntKind.i64.wrap (q : Int) = (q : Int) := IntWalk.i64_in _ (by omega)
  have t1 : ((t : Int) == 0) = false := beq_eq_false_iff_ne.2 (by omega)
  have t2 : ¬ (t : Int) = 0 := by omega
  have c1 : (now : Int) ≤ 4611686018427387903 := by omega
  go_enter Try.func10, Try.ntmps10
  go_wp2_with fail
  refine (HA.out _).mono ?_
  rintro e w1 ⟨rfl, hb⟩
  have Kl := (BlkL.new _ [.int .i64 T, .int .i64 Tau] 23).below hb
  try simp only [World.size_alloc] at Kl
  have HB1 := Lib.hid (((Below.refl w.heap.size w).alloc (by simp <;> omega) _).trans (hb.mono (by simp <;> omega)))
  clear hb
  have cl0 := Kl.cell 0 _ rfl
  have fl0 := Kl.froz 0 (by simp)
  have cl1 := Kl.cell 1 _ rfl
  have fl1 := Kl.froz 1 (by simp)
  have zl := Kl.lt
  have HKl1 := Lib.hid Kl
  clear Kl
  go_wp2_with fail
  refine (HC.out _).mono ?_
  rintro e w2 ⟨rfl, hb⟩
  have Kl := HKl1.out.below hb
  have HB2 := Lib.hid (HB1.out.trans (hb.mono (by have := HB1.out.size; simp <;> omega)))
  clear hb cl0 fl0 cl1 fl1 zl
  have cl0 := Kl.cell 0 _ rfl
  have fl0 := Kl.froz 0 (by simp)
  have cl1 := Kl.cell 1 _ rfl
  have fl1 := Kl.froz 1 (by simp)
  have zl := Kl.lt
  have HKl2 := Lib.hid Kl
  clear Kl
  go_wp2_with fail
  refine (HL.out _).mono ?_
  rintro e w3 ⟨rfl, hb⟩
  have Kl := ((HKl2.out.set 0 (.int .i64 (t : Int)) (by simp)).set 1 (.int .i64 (u : Int)) (by simp)).below hb
  simp only [List.set_cons_zero, List.set_cons_succ] at Kl
  have HB3 := Lib.hid (((HB2.out.setCell (p := ⟨w.heap.size, 0, none⟩) (by show w.heap.size ≤ w.heap.size; omega) (.int .i64 (t : Int))).setCell (p := ⟨w.heap.size, 1, none⟩) (by show w.heap.size ≤ w.heap.size; omega) (.int .i64 (u : Int))).trans (hb.mono (by have := HB2.out.size; simp <;> omega)))
  clear hb cl0 fl0 cl1 fl1 zl
  have cl0 := Kl.cell 0 _ rfl
  have cl1 := Kl.cell 1 _ rfl
  have zl := Kl.lt
  have HKl3 := Lib.hid Kl
  clear Kl
  go_wp2_with fail
  refine (HO.out _).mono ?_
  rintro e w4 ⟨rfl, hb⟩
  have Kl := HKl3.out.below hb
  have HB4 := Lib.hid (HB3.out.trans (hb.mono (by have := HB3.out.size; simp <;> omega)))
  clear hb cl0 cl1 zl
  have cl0 := Kl.cell 0 _ rfl
  have cl1 := Kl.cell 1 _ rfl
  have zl := Kl.lt
  have HKl4 := Lib.hid Kl
  clear Kl
  go_wp2
  go_ret
  exact ⟨rfl, HB4.out⟩


set_option maxHeartbeats 1600000 in
theorem gcraOnce_hi (T Tau x : Int) (w : World) (t u now p q : Nat) (ht1 : 1 ≤ t) (hn2 : now ≤ 4611686018427387903) (hql : q ≤ 4611686018427387903)
    (e1 : ((4611686018427387903 : Int) - (now : Int)).tdiv (t : Int) = (q : Int)) (hpq : p ≤ q)
    (HA : Hid (∀ w, Calls Try.prog 17 #[] w (ValEnd w (.bool true))))
    (HC : Hid (∀ w, Calls Try.prog 26 #[.agg #[.int .i64 T, .int .i64 Tau], .int .i64 x, .int .i64 0, .int .i64 0] w (ValEnd w (.tuple #[.agg #[.int .i64 (t : Int), .int .i64 (u : Int)], .int .i64 (now : Int), .int .i64 (clampV 0), .int .i64 (clampV 0)]))))
    (HL : Hid (∀ w, Calls Try.prog 19 #[.agg #[.int .i64 (t : Int), .int .i64 (u : Int)], .int .i64 0, .int .i64 (now : Int)] w (ValEnd w (.tuple #[.int .i64 ((p : Nat) : Int), .int .i64 0]))))
    (HO : Hid (∀ w, Calls Try.prog 30 #[.agg #[.int .i64 (t : Int), .int .i64 (u : Int)]] w (ValEnd w (.tuple #[.int .i64 (p : Int), .int .i64 0])))) :
    Calls Try.prog 10 #[.agg #[.int .i64 T, .int .i64 Tau], .int .i64 x] w (ValEnd w (.bool true)) := by
  have e2 : wrap64 (q : Int) = (q : Int) := by unfold wrap64; omega
  have e4 : IntKind.i64.wrap (q : Int) = (q : Int) := IntWalk.i64_in _ (by omega)
  have t1 : ((t : Int) == 0) = false := beq_eq_false_iff_ne.2 (by omega)
  have t2 : ¬ (t : Int) = 0 := by omega
  have c1 : (now : Int) ≤ 4611686018427387903 := by omega
  have hpq2 : ¬ q < p := by omega
  go_enter Try.func10, Try.ntmps10
  go_wp2_with fail
  refine (HA.out _).mono ?_
  rintro e w1 ⟨rfl, hb⟩
  have Kl := (BlkL.new _ [.int .i64 T, .int .i64 Tau] 23).below hb
  try simp only [World.size_alloc] at Kl
  have HB1 := Lib.hid (((Below.refl w.heap.size w).alloc (by simp <;> omega) _).trans (hb.mono (by simp <;> omega)))
  clear hb
  have cl0 := Kl.cell 0 _ rfl
  have fl0 := Kl.froz 0 (by simp)
  have cl1 := Kl.cell 1 _ rfl
  have fl1 := Kl.froz 1 (by simp)
  have zl := Kl.lt
  have HKl1 := Lib.hid Kl
  clear Kl
  go_wp2_with fail
  refine (HC.out _).mono ?_
  rintro e w2 ⟨rfl, hb⟩
  have Kl := HKl1.out.below hb
  have HB2 := Lib.hid (HB1.out.trans (hb.mono (by have := HB1.out.size; simp <;> omega)))
  clear hb cl0 fl0 cl1 fl1 zl
  have cl0 := Kl.cell 0 _ rfl
  have fl0 := Kl.froz 0 (by simp)
  have cl1 := Kl.cell 1 _ rfl
  have fl1 := Kl.froz 1 (by simp)
  have zl := Kl.lt
  have HKl2 := Lib.hid Kl
  clear Kl
  go_wp2_with fail
  refine (HL.out _).mono ?_
  rintro e w3 ⟨rfl, hb⟩
  have Kl := ((HKl2.out.set 0 (.int .i64 (t : Int)) (by simp)).set 1 (.int .i64 (u : Int)) (by simp)).below hb
  simp only [List.set_cons_zero, List.set_cons_succ] at Kl
  have HB3 := Lib.hid (((HB2.out.setCell (p := ⟨w.heap.size, 0, none⟩) (by show w.heap.size ≤ w.heap.size; omega) (.int .i64 (t : Int))).setCell (p := ⟨w.heap.size, 1, none⟩) (by show w.heap.size ≤ w.heap.size; omega) (.int .i64 (u : Int))).trans (hb.mono (by have := HB2.out.size; simp <;> omega)))
  clear hb cl0 fl0 cl1 fl1 zl
  have cl0 := Kl.cell 0 _ rfl
  have cl1 := Kl.cell 1 _ rfl
  have zl := Kl.lt
  have HKl3 := Lib.hid Kl
  clear Kl
  go_wp2_with fail
  refine (HO.out _).mono ?_
  rintro e w4 ⟨rfl, hb⟩
  have Kl := HKl3.out.below hb
  have HB4 := Lib.hid (HB3.out.trans (hb.mono (by have := HB3.out.size; simp <;> omega)))
  clear hb cl0 cl1 zl
  have cl0 := Kl.cell 0 _ rfl
  have cl1 := Kl.cell 1 _ rfl
  have zl := Kl.lt
  have HKl4 := Lib.hid Kl
  clear Kl
  go_wp2
  go_ret
  exact ⟨rfl, HB4.out⟩


theorem gcraOnce_walk (T Tau x : Int) (w : World) (wT : (Lit.int .i64 T).wf = true) (wU : (Lit.int .i64 Tau).wf = true) (wx : (Lit.int .i64 x).wf = true) :
    Calls Try.prog 10 #[.agg #[.int .i64 T, .int .i64 Tau], .int .i64 x] w (ValEnd w (.bool true)) := by
  have b1 := bounds_i64 wT
  have b2 := bounds_i64 wU
  have b3 := bounds_i64 wx
  have HC := fun w => clamped_any w T Tau x 0 0 (by omega) (by omega) (by omega) (by omega) (by omega)
  obtain ⟨t, ht, ht1, ht2⟩ := clamp_one T
  obtain ⟨u, hu, hu2⟩ := clamp_nat Tau
  obtain ⟨now, hn, hn2⟩ := clamp_nat x
  rw [ht, hu, hn] at HC
  have HL := fun w => gLeft_good w t u 0 now (ddecV_left ht1 ht2 hu2 (by omega) hn2)
  have HO := fun w => onceP_any w (t : Int) (u : Int)
  rw [dwithV_zero ht1 ht2 hu2] at HO
  rw [leftV_idle] at HL
  have e1 : ((4611686018427387903 : Int) - (now : Int)).tdiv (t : Int) = (((4611686018427387903 - now) / t : Nat) : Int) := by
    rw [show ((4611686018427387903 : Int) - (now : Int)) = ((4611686018427387903 - now : Nat) : Int) by omega]; exact tdiv_nat _ _
  have hql : (4611686018427387903 - now) / t ≤ 4611686018427387903 := Nat.le_trans (Nat.div_le_self _ _) (by omega)
  generalize (4611686018427387903 - now) / t = q at *
  generalize u / t + 1 = p at *
  rcases Nat.lt_or_ge q p with hpq | hpq
  · rw [Nat.min_eq_right (by omega)] at HL
    exact gcraOnce_lo T Tau x w t u now p q ht1 hn2 hql e1 hpq (Lib.hid awake5_any) (Lib.hid HC) (Lib.hid HL) (Lib.hid HO)
  · rw [Nat.min_eq_left (by omega)] at HL
    exact gcraOnce_hi T Tau x w t u now p q ht1 hn2 hql e1 hpq (Lib.hid awake5_any) (Lib.hid HC) (Lib.hid HL) (Lib.hid HO)
end Go.Proofs.Ythigbhhhhebjeaa
