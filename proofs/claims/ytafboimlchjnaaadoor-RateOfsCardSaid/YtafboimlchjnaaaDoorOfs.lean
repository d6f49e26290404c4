/- The law RateOfs: its walk. -/
import Derived.Test.YtafboimlchjnaaaDoorDocOf2
namespace Go.Proofs.YtafboimlchjnaaaDoor
open Go.RowKit
set_option maxRecDepth 100000
set_option linter.unusedVariables false

set_option maxHeartbeats 400000 in
theorem of4_any (w : World) (p b : Nat) (hz : Int) : Calls Tryd.prog 40 #[.int .u64 (p : Int), .int .u64 (b : Int), .int .i64 hz] w (ValEnd w (RateV p b hz)) := by
  have kst : ∀ (a : Addr) (x : Nat) (w : World), (store a (.float .f64 x)).run Tryd.prog w = stored Tryd.prog w a (.float .f64 x) .plain := fun a x w => run_store _ _ _ _ _ rfl
  go_enter Tryd.func40, Tryd.ntmps40
  go_wp2
  rw [run_callFunc_extern Tryd.func52 (by kernel_rfl) (by kernel_rfl) (by kernel_rfl) (e := Extern.MathFloatBits.float64frombits) (by kernel_rfl), run_f64from]
  simp only [Result.andThen]
  rw [Oper.upon_value]
  go_wp2
  rw [run_callFunc_extern Tryd.func52 (by kernel_rfl) (by kernel_rfl) (by kernel_rfl) (e := Extern.MathFloatBits.float64frombits) (by kernel_rfl), run_f64from]
  simp only [Result.andThen]
  rw [Oper.upon_value]
  go_wp2
  exact bodyPost_ret (v := RateV p b hz) (by simp [results, Tryd.results40, go_sem]) rfl ⟨rfl, (Below.refl _ _).alloc (Nat.le_refl _) _⟩

set_option maxHeartbeats 1600000 in
theorem rateOfs_ok (w : World) (p b : Nat) (hz T U : Int)
    (HO : Hid (∀ w, Calls Tryd.prog 40 #[.int .u64 (p : Int), .int .u64 (b : Int), .int .i64 hz] w (ValEnd w (RateV p b hz))))
    (HP : Hid (∀ w', Below w.heap.size w w' → Calls Tryd.prog 41 #[RateV p b hz] w' (ValEnd w' (.tuple #[.agg #[.int .i64 T, .int .i64 U], .int .i64 0]))))
    (HD : Hid (∀ w, Calls Tryd.prog 42 #[.agg #[.float .f64 p, .float .f64 b, .int .i64 hz]] w (ValEnd w (.tuple #[.agg #[.int .i64 T, .int .i64 U], .int .i64 0]))))
    (HA : Hid (∀ w', Below w.heap.size w w' → Calls Tryd.prog 43 #[] w' (ValEnd w' (.bool true))))
    (HC : Hid (∀ w, Calls Tryd.prog 44 #[.agg #[.int .i64 T, .int .i64 U]] w (ValEnd w (.int .i64 0)))) :
    Calls Tryd.prog 11 #[.int .u64 (p : Int), .int .u64 (b : Int), .int .i64 hz] w (ValEnd w (.bool true)) := by
  have kst : ∀ (a : Addr) (x : Nat) (w : World), (store a (.float .f64 x)).run Tryd.prog w = stored Tryd.prog w a (.float .f64 x) .plain := fun a x w => run_store _ _ _ _ _ rfl
  go_enter Tryd.func11, Tryd.ntmps11
  go_wp2_with fail
  with_reducible refine (HO.out _).mono ?_
  rintro e w1 ⟨rfl, hb⟩
  have HB1 := Lib.hid ((Below.refl w.heap.size w).trans (hb.mono (by simp <;> omega)))
  clear hb
  go_wp2_with fail
  with_reducible refine (HP.out _ ((HB1.out.alloc HB1.out.size _))).mono ?_
  rintro e w2 ⟨rfl, hb⟩
  have Kr := (BlkL.new _ [.float .f64 p, .float .f64 b, .int .i64 hz] 54).below hb
  try simp only [World.size_alloc] at Kr
  have HB2 := Lib.hid ((HB1.out.alloc (by have := HB1.out.size; simp; omega) _).trans (hb.mono (by have := HB1.out.size; simp <;> omega)))
  clear hb
  have cr0 := Kr.cell 0 _ rfl
  have cr1 := Kr.cell 1 _ rfl
  have cr2 := Kr.cell 2 _ rfl
  have zr := Kr.lt
  have HKr2 := Lib.hid Kr
  clear Kr
  go_wp2_with fail
  with_reducible refine (HD.out _).mono ?_
  rintro e w3 ⟨rfl, hb⟩
  have Kr := (HKr2.out.alloc _).below hb
  have Ka := (BlkL.new _ [.int .i64 T, .int .i64 U] 57).below hb
  try simp only [World.size_alloc] at Ka
  have HB3 := Lib.hid ((HB2.out.alloc (by have := HB2.out.size; simp; omega) _).trans (hb.mono (by have := HB2.out.size; simp <;> omega)))
  clear hb cr0 cr1 cr2 zr
  have HKr3 := Lib.hid Kr
  have HKa3 := Lib.hid Ka
  clear Kr Ka
  go_wp2_with fail
  with_reducible refine (HA.out _ ((HB3.out.alloc HB3.out.size _))).mono ?_
  rintro e w4 ⟨rfl, hb⟩
  have Kr := (HKr3.out.alloc _).below hb
  have Ka := (HKa3.out.alloc _).below hb
  have Kd := (BlkL.new _ [.int .i64 T, .int .i64 U] 57).below hb
  try simp only [World.size_alloc] at Kd
  have HB4 := Lib.hid ((HB3.out.alloc (by have := HB3.out.size; simp; omega) _).trans (hb.mono (by have := HB3.out.size; simp <;> omega)))
  clear hb
  have ca0 := Ka.cell 0 _ rfl
  have ca1 := Ka.cell 1 _ rfl
  have za := Ka.lt
  have cd0 := Kd.cell 0 _ rfl
  have cd1 := Kd.cell 1 _ rfl
  have zd := Kd.lt
  have HKr4 := Lib.hid Kr
  have HKa4 := Lib.hid Ka
  have HKd4 := Lib.hid Kd
  clear Kr Ka Kd
  go_wp2_with fail
  with_reducible refine (HC.out _).mono ?_
  rintro e w5 ⟨rfl, hb⟩
  have Kr := HKr4.out.below hb
  have Ka := HKa4.out.below hb
  have Kd := HKd4.out.below hb
  have HB5 := Lib.hid (HB4.out.trans (hb.mono (by have := HB4.out.size; simp <;> omega)))
  clear hb ca0 ca1 za cd0 cd1 zd
  have HKr5 := Lib.hid Kr
  have HKa5 := Lib.hid Ka
  have HKd5 := Lib.hid Kd
  clear Kr Ka Kd
  go_wp2
  go_ret
  exact ⟨rfl, HB5.out⟩


set_option maxHeartbeats 1600000 in
theorem rateOfs_no (w : World) (p b : Nat) (hz T U er : Int) (hne : (er != 0) = true)
    (HO : Hid (∀ w, Calls Tryd.prog 40 #[.int .u64 (p : Int), .int .u64 (b : Int), .int .i64 hz] w (ValEnd w (RateV p b hz))))
    (HP : Hid (∀ w', Below w.heap.size w w' → Calls Tryd.prog 41 #[RateV p b hz] w' (ValEnd w' (.tuple #[.agg #[.int .i64 T, .int .i64 U], .int .i64 er]))))
    (HD : Hid (∀ w, Calls Tryd.prog 42 #[.agg #[.float .f64 p, .float .f64 b, .int .i64 hz]] w (ValEnd w (.tuple #[.agg #[.int .i64 T, .int .i64 U], .int .i64 er]))))
    (HA : Hid (∀ w', Below w.heap.size w w' → Calls Tryd.prog 43 #[] w' (ValEnd w' (.bool true)))) :
    Calls Tryd.prog 11 #[.int .u64 (p : Int), .int .u64 (b : Int), .int .i64 hz] w (ValEnd w (.bool true)) := by
  have kst : ∀ (a : Addr) (x : Nat) (w : World), (store a (.float .f64 x)).run Tryd.prog w = stored Tryd.prog w a (.float .f64 x) .plain := fun a x w => run_store _ _ _ _ _ rfl
  go_enter Tryd.func11, Tryd.ntmps11
  go_wp2_with fail
  with_reducible refine (HO.out _).mono ?_
  rintro e w1 ⟨rfl, hb⟩
  have HB1 := Lib.hid ((Below.refl w.heap.size w).trans (hb.mono (by simp <;> omega)))
  clear hb
  go_wp2_with fail
  with_reducible refine (HP.out _ ((HB1.out.alloc HB1.out.size _))).mono ?_
  rintro e w2 ⟨rfl, hb⟩
  have Kr := (BlkL.new _ [.float .f64 p, .float .f64 b, .int .i64 hz] 54).below hb
  try simp only [World.size_alloc] at Kr
  have HB2 := Lib.hid ((HB1.out.alloc (by have := HB1.out.size; simp; omega) _).trans (hb.mono (by have := HB1.out.size; simp <;> omega)))
  clear hb
  have cr0 := Kr.cell 0 _ rfl
  have cr1 := Kr.cell 1 _ rfl
  have cr2 := Kr.cell 2 _ rfl
  have zr := Kr.lt
  have HKr2 := Lib.hid Kr
  clear Kr
  go_wp2_with fail
  with_reducible refine (HD.out _).mono ?_
  rintro e w3 ⟨rfl, hb⟩
  have Kr := (HKr2.out.alloc _).below hb
  have Ka := (BlkL.new _ [.int .i64 T, .int .i64 U] 57).below hb
  try simp only [World.size_alloc] at Ka
  have HB3 := Lib.hid ((HB2.out.alloc (by have := HB2.out.size; simp; omega) _).trans (hb.mono (by have := HB2.out.size; simp <;> omega)))
  clear hb cr0 cr1 cr2 zr
  have HKr3 := Lib.hid Kr
  have HKa3 := Lib.hid Ka
  clear Kr Ka
  go_wp2_with fail
  with_reducible refine (HA.out _ ((HB3.out.alloc HB3.out.size _))).mono ?_
  rintro e w4 ⟨rfl, hb⟩
  have Kr := (HKr3.out.alloc _).below hb
  have Ka := (HKa3.out.alloc _).below hb
  have Kd := (BlkL.new _ [.int .i64 T, .int .i64 U] 57).below hb
  try simp only [World.size_alloc] at Kd
  have HB4 := Lib.hid ((HB3.out.alloc (by have := HB3.out.size; simp; omega) _).trans (hb.mono (by have := HB3.out.size; simp <;> omega)))
  clear hb
  have ca0 := Ka.cell 0 _ rfl
  have ca1 := Ka.cell 1 _ rfl
  have za := Ka.lt
  have cd0 := Kd.cell 0 _ rfl
  have cd1 := Kd.cell 1 _ rfl
  have zd := Kd.lt
  have HKr4 := Lib.hid Kr
  have HKa4 := Lib.hid Ka
  have HKd4 := Lib.hid Kd
  clear Kr Ka Kd
  go_wp2
  go_ret
  exact ⟨rfl, HB4.out⟩


theorem ofV_shape (p b : Nat) (hz : Int) (hp : p ≤ 18446744073709551615) (hb : b ≤ 18446744073709551615) : (∃ e : Int, (e != 0) = true ∧ ofV p b hz = (0, 0, e)) ∨
    (ofV p b hz = (((gapT p hz.toNat : Nat) : Int), ((aheadT b (gapT p hz.toNat) : Nat) : Int), 0) ∧ checkV ((gapT p hz.toNat : Nat) : Int) ((aheadT b (gapT p hz.toNat) : Nat) : Int) = 0) := by
  unfold ofV
  by_cases h : toldV p b hz = 0
  · rw [if_neg (by omega)]
    split
    · exact .inl ⟨5, by decide, rfl⟩
    · rename_i h1
      split
      · exact .inl ⟨5, by decide, rfl⟩
      · rename_i h2
        refine .inr ⟨rfl, ?_⟩
        obtain ⟨z1, z2, p1, p2, _, b1⟩ := told_zero hp hb h
        have g1 := gapT_pos (p := p) (h := hz.toNat) (by omega) (manS_pos p2 p1)
        have c1 : gapT p hz.toNat ≤ 4611686018427387903 := of_decide_eq_true (by simpa [capB] using h1)
        have c2 : aheadT b (gapT p hz.toNat) ≤ 4611686018427387903 := of_decide_eq_true (by simpa [capB] using h2)
        exact checkV_ok (by omega) (isTick_iff.2 ⟨by omega, by omega⟩) (isTick_iff.2 ⟨by omega, by omega⟩)
  · rw [if_pos h]
    exact .inl ⟨_, bne_iff_ne.2 h, rfl⟩
theorem rateOfs_walk (p b hz : Int) (w : World) (wp : (Lit.int .u64 p).wf = true) (wb : (Lit.int .u64 b).wf = true) (wh : (Lit.int .i64 hz).wf = true) (hT : Tab w) :
    Calls Tryd.prog 11 #[.int .u64 p, .int .u64 b, .int .i64 hz] w (ValEnd w (.bool true)) := by
  have b1 := bounds_u64 wp
  have b2 := bounds_u64 wb
  obtain ⟨p, rfl⟩ : ∃ k : Nat, p = (k : Int) := ⟨p.toNat, by omega⟩
  obtain ⟨b, rfl⟩ : ∃ k : Nat, b = (k : Int) := ⟨b.toNat, by omega⟩
  have hp : p ≤ 18446744073709551615 := by omega
  have hb : b ≤ 18446744073709551615 := by omega
  have HA : ∀ w', Below w.heap.size w w' → Calls Tryd.prog 43 #[] w' (ValEnd w' (.bool true)) := fun w' h => awake4_any w' (hT.below h)
  have HO := fun w => of4_any w p b hz
  have HP : ∀ w', Below w.heap.size w w' → Calls Tryd.prog 41 #[RateV p b hz] w' (LimE w' (ofV p b hz).1 (ofV p b hz).2.1 (ofV p b hz).2.2) := fun w' h => of_any w' p b hz hp hb (hT.below h)
  have HD := fun w => docof_any w p b hz hp hb
  rcases ofV_shape p b hz hp hb with ⟨e, hne, hv⟩ | ⟨hv, hc⟩
  · rw [hv] at HP HD
    exact rateOfs_no w p b hz 0 0 e hne (Lib.hid HO) (Lib.hid HP) (Lib.hid HD) (Lib.hid HA)
  · rw [hv] at HP HD
    have HC := fun w => checkP_any w ((gapT p hz.toNat : Nat) : Int) ((aheadT b (gapT p hz.toNat) : Nat) : Int)
    rw [hc] at HC
    exact rateOfs_ok w p b hz _ _ (Lib.hid HO) (Lib.hid HP) (Lib.hid HD) (Lib.hid HA) (Lib.hid HC)
end Go.Proofs.YtafboimlchjnaaaDoor
