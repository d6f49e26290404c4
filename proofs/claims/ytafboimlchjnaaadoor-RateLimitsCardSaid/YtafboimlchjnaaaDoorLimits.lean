/- The law RateLimits: its walk. -/
import Derived.Test.YtafboimlchjnaaaDoorOrdP
import Derived.Test.YtafboimlchjnaaaDoorRateAll
import Derived.Test.YtafboimlchjnaaaDoorBlk
namespace Go.Proofs.YtafboimlchjnaaaDoor
open Go.RowKit
set_option maxRecDepth 100000
set_option linter.unusedVariables false

theorem ratioB_le5 {a b : Int} (h1 : -9223372036854775808 ≤ a) (h2 : a ≤ 9223372036854775807) (h3 : -9223372036854775808 ≤ b) (h4 : b ≤ 9223372036854775807) (h0 : b ≠ 0) : ratioB a b ≤ 18446744073709551615 := by
  have h := nearB_le (N := a.natAbs) (M := b.natAbs) (by omega) (by omega) (by omega)
  unfold ratioB
  split
  · unfold turnB; split <;> omega
  · omega
theorem drealV_shape (T Tau hz : Int) (hT' : T ≤ 9223372036854775807) (h1 : -9223372036854775808 ≤ hz) (h2 : hz ≤ 9223372036854775807) : ∃ r : Nat, ∃ f : Int, r ≤ 18446744073709551615 ∧ drealV T Tau hz = .tuple #[.float .f64 r, .int .i64 f] := by
  unfold drealV; split
  · exact ⟨0, 1, by omega, rfl⟩
  · rename_i hh
    have : checkV T Tau = 0 := by rcases checkV_cases T Tau with h | h <;> omega
    have := checkV_zero this
    exact ⟨_, 0, ratioB_le5 h1 h2 (by omega) (by omega) (by omega), rfl⟩

set_option maxHeartbeats 3200000 in
theorem rateLimits_w (w : World) (T Tau hz span : Int) (r : Nat) (n m f1 f2 f3 ck : Int)
    (HA : Hid (∀ w', Below w.heap.size w w' → Calls Tryd.prog 43 #[] w' (ValEnd w' (.bool true))))
    (HR : Hid (∀ w, Calls Tryd.prog 45 #[.agg #[.int .i64 T, .int .i64 Tau], .int .i64 hz] w (ValEnd w (.tuple #[.float .f64 r, .int .i64 f1]))))
    (HD : Hid (∀ w, Calls Tryd.prog 46 #[.agg #[.int .i64 T, .int .i64 Tau], .int .i64 hz] w (ValEnd w (.tuple #[.float .f64 r, .int .i64 f1]))))
    (HO : Hid (∀ w, Calls Tryd.prog 47 #[.agg #[.int .i64 T, .int .i64 Tau]] w (ValEnd w (.tuple #[.int .i64 n, .int .i64 f2]))))
    (HW0 : Hid (∀ w, Calls Tryd.prog 48 #[.agg #[.int .i64 T, .int .i64 Tau], .int .i64 0] w (ValEnd w (.tuple #[.int .i64 n, .int .i64 f2]))))
    (HP : Hid (∀ w, Calls Tryd.prog 49 #[.agg #[.int .i64 T, .int .i64 Tau], .int .i64 span] w (ValEnd w (.tuple #[.int .i64 m, .int .i64 f3]))))
    (HW : Hid (∀ w, Calls Tryd.prog 48 #[.agg #[.int .i64 T, .int .i64 Tau], .int .i64 span] w (ValEnd w (.tuple #[.int .i64 m, .int .i64 f3]))))
    (HC : Hid (∀ w, Calls Tryd.prog 44 #[.agg #[.int .i64 T, .int .i64 Tau]] w (ValEnd w (.int .i64 ck))))
    (HK : Hid (∀ w, Calls Tryd.prog 50 #[.agg #[.int .i64 T, .int .i64 Tau]] w (ValEnd w (.int .i64 ck))))
    (HS : Hid (∀ w, Calls Tryd.prog 30 #[.float .f64 r, .float .f64 r] w (ValEnd w (.bool true)))) :
    Calls Tryd.prog 12 #[.agg #[.int .i64 T, .int .i64 Tau], .int .i64 hz, .int .i64 span] w (ValEnd w (.bool true)) := by
  have q1 : (ck == ck) = true := beq_self_eq_true _
  have q2 : (f1 == f1) = true := beq_self_eq_true _
  have q3 : (f2 == f2) = true := beq_self_eq_true _
  have q4 : (f3 == f3) = true := beq_self_eq_true _
  have q5 : (n == n) = true := beq_self_eq_true _
  have q6 : (m == m) = true := beq_self_eq_true _
  go_enter Tryd.func12, Tryd.ntmps12
  go_wp2_with fail
  with_reducible refine (HR.out _).mono ?_
  rintro e w1 ⟨rfl, hb⟩
  have Kl := (BlkL.new _ [.int .i64 T, .int .i64 Tau] 57).below hb
  try simp only [World.size_alloc] at Kl
  have HB1 := Lib.hid (((Below.refl w.heap.size w).alloc (by simp <;> omega) _).trans (hb.mono (by simp <;> omega)))
  clear hb
  have cl0 := Kl.cell 0 _ rfl
  have cl1 := Kl.cell 1 _ rfl
  have zl := Kl.lt
  have HKl1 := Lib.hid Kl
  clear Kl
  go_wp2_with fail
  with_reducible refine (HD.out _).mono ?_
  rintro e w2 ⟨rfl, hb⟩
  have Kl := HKl1.out.below hb
  have HB2 := Lib.hid (HB1.out.trans (hb.mono (by have := HB1.out.size; simp <;> omega)))
  clear hb cl0 cl1 zl
  have cl0 := Kl.cell 0 _ rfl
  have cl1 := Kl.cell 1 _ rfl
  have zl := Kl.lt
  have HKl2 := Lib.hid Kl
  clear Kl
  go_wp2_with fail
  with_reducible refine (HO.out _).mono ?_
  rintro e w3 ⟨rfl, hb⟩
  have Kl := HKl2.out.below hb
  have HB3 := Lib.hid (HB2.out.trans (hb.mono (by have := HB2.out.size; simp <;> omega)))
  clear hb cl0 cl1 zl
  have cl0 := Kl.cell 0 _ rfl
  have cl1 := Kl.cell 1 _ rfl
  have zl := Kl.lt
  have HKl3 := Lib.hid Kl
  clear Kl
  go_wp2_with fail
  with_reducible refine (HW0.out _).mono ?_
  rintro e w4 ⟨rfl, hb⟩
  have Kl := HKl3.out.below hb
  have HB4 := Lib.hid (HB3.out.trans (hb.mono (by have := HB3.out.size; simp <;> omega)))
  clear hb cl0 cl1 zl
  have cl0 := Kl.cell 0 _ rfl
  have cl1 := Kl.cell 1 _ rfl
  have zl := Kl.lt
  have HKl4 := Lib.hid Kl
  clear Kl
  go_wp2_with fail
  with_reducible refine (HP.out _).mono ?_
  rintro e w5 ⟨rfl, hb⟩
  have Kl := HKl4.out.below hb
  have HB5 := Lib.hid (HB4.out.trans (hb.mono (by have := HB4.out.size; simp <;> omega)))
  clear hb cl0 cl1 zl
  have cl0 := Kl.cell 0 _ rfl
  have cl1 := Kl.cell 1 _ rfl
  have zl := Kl.lt
  have HKl5 := Lib.hid Kl
  clear Kl
  go_wp2_with fail
  with_reducible refine (HW.out _).mono ?_
  rintro e w6 ⟨rfl, hb⟩
  have Kl := HKl5.out.below hb
  have HB6 := Lib.hid (HB5.out.trans (hb.mono (by have := HB5.out.size; simp <;> omega)))
  clear hb cl0 cl1 zl
  have cl0 := Kl.cell 0 _ rfl
  have cl1 := Kl.cell 1 _ rfl
  have zl := Kl.lt
  have HKl6 := Lib.hid Kl
  clear Kl
  go_wp2_with fail
  go_region_held3 (fun w' => w'.cell? ⟨w.heap.size, 0, none⟩ = some (.int .i64 T) ∧ w'.cell? ⟨w.heap.size, 1, none⟩ = some (.int .i64 Tau))
    (go_keep)
    (first
      | ((with_reducible refine (HA.out _ HB6.out.drew).mono ?_); rintro e w7 ⟨rfl, hb⟩; have bl := HKl6.out.drew.below hb; have HB7 := Lib.hid (HB6.out.drew.trans (hb.mono HB6.out.size)); clear hb; have ca7 := bl.cell 0 _ rfl; have cb7 := bl.cell 1 _ rfl; have HKl7 := Lib.hid bl; clear bl)
      | ((with_reducible refine (HC.out _).mono ?_); rintro e w8 ⟨rfl, hb⟩; have bl := HKl7.out.below hb; have HB8 := Lib.hid (HB7.out.trans (hb.mono HB7.out.size)); clear hb; have ca8 := bl.cell 0 _ rfl; have cb8 := bl.cell 1 _ rfl; have HKl8 := Lib.hid bl; clear bl)
      | ((with_reducible refine (HK.out _).mono ?_); rintro e w9 ⟨rfl, hb⟩; have bl := HKl8.out.below hb; have HB9 := Lib.hid (HB8.out.trans (hb.mono HB8.out.size)); clear hb; have ca9 := bl.cell 0 _ rfl; have cb9 := bl.cell 1 _ rfl; have HKl9 := Lib.hid bl; clear bl)
      | ((with_reducible refine (HS.out _).mono ?_); rintro e w10 ⟨rfl, hb⟩; have bl := HKl9.out.below hb; have HB10 := Lib.hid (HB9.out.trans (hb.mono HB9.out.size)); clear hb; have ca10 := bl.cell 0 _ rfl; have cb10 := bl.cell 1 _ rfl; have HKl10 := Lib.hid bl; clear bl))
  go_wp2
  go_ret
  exact ⟨rfl, HB10.out⟩

theorem rateLimits_walk (T Tau hz span : Int) (w : World) (wT : (Lit.int .i64 T).wf = true) (wU : (Lit.int .i64 Tau).wf = true) (wh : (Lit.int .i64 hz).wf = true) (ws : (Lit.int .i64 span).wf = true) (hT : Tab w) :
    Calls Tryd.prog 12 #[.agg #[.int .i64 T, .int .i64 Tau], .int .i64 hz, .int .i64 span] w (ValEnd w (.bool true)) := by
  have b1 := bounds_i64 wT
  have b2 := bounds_i64 wh
  have HA : ∀ w', Below w.heap.size w w' → Calls Tryd.prog 43 #[] w' (ValEnd w' (.bool true)) := fun w' hb => awake4_any w' (hT.below hb)
  have HR := fun w => realP_any w T Tau hz (by omega) (by omega)
  have HD := fun w => dreal4_any w T Tau hz (by omega) (by omega) (by omega)
  have HO := fun w => onceP_any w T Tau
  have HW0 := fun w => dwithin4_any w T Tau 0
  have HP := fun w => withinP_any w T Tau span
  have HW := fun w => dwithin4_any w T Tau span
  have HC := fun w => checkP_any w T Tau
  have HK := fun w => check4_any w T Tau
  obtain ⟨r, f1, hr, e1⟩ := drealV_shape T Tau hz (by omega) (by omega) (by omega)
  obtain ⟨n, f2, e2⟩ := dwithV_shape T Tau 0
  obtain ⟨m, f3, e3⟩ := dwithV_shape T Tau span
  have HS : ∀ w, Calls Tryd.prog 30 #[.float .f64 r, .float .f64 r] w (ValEnd w (.bool true)) := fun w => by
    have := same3_any w r r hr hr
    rw [sameB_refl] at this
    exact this.mono fun _ _ ⟨he, hw⟩ => ⟨he, by rw [← hw]; exact Below.refl _ _⟩
  rw [e1] at HR HD
  rw [e2] at HO HW0
  rw [e3] at HP HW
  exact rateLimits_w w T Tau hz span r n m f1 f2 f3 _ (Lib.hid HA) (Lib.hid HR) (Lib.hid HD) (Lib.hid HO) (Lib.hid HW0) (Lib.hid HP) (Lib.hid HW) (Lib.hid HC) (Lib.hid HK) (Lib.hid HS)
end Go.Proofs.YtafboimlchjnaaaDoor
