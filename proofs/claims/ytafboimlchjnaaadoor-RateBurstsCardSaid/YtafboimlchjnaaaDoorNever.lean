/- The law RateNever: its walk. -/
import Derived.Test.YtafboimlchjnaaaDoorOfs4
import Derived.Test.YtafboimlchjnaaaDoorNeverM
import Derived.Test.YtafboimlchjnaaaDoorBlk
import Derived.Outline
namespace Go.Proofs.YtafboimlchjnaaaDoor
open Go.RowKit
set_option maxRecDepth 100000
set_option linter.unusedVariables false

theorem eqlL (T U : Int) (w : World) : (binOp .eql 57 (.agg #[.int .i64 T, .int .i64 U]) (.agg #[.int .i64 T, .int .i64 U])).run Tryd.prog w = .ok (.bool true) w := by simp [go_sem, Result.andThen]
theorem neqL (T U : Int) (w : World) : (binOp .neq 57 (.agg #[.int .i64 T, .int .i64 U]) (.agg #[.int .i64 T, .int .i64 U])).run Tryd.prog w = .ok (.bool false) w := by simp [go_sem, Result.andThen]

set_option maxHeartbeats 1600000 in
theorem rateNever_e (w : World) (p : Nat) (hz er : Int)
    (HA : Hid (∀ w', Below w.heap.size w w' → Calls Tryd.prog 43 #[] w' (ValEnd w' (.bool true))))
    (HO : Hid (∀ w, Calls Tryd.prog 40 #[.int .u64 (p : Int), .int .u64 0, .int .i64 hz] w (ValEnd w (RateV p 0 hz))))
    (hne : (er != 0) = true)
    (HP : Hid (∀ w', Below w.heap.size w w' → Calls Tryd.prog 41 #[RateV p 0 hz] w' (ValEnd w' (.tuple #[.agg #[.int .i64 0, .int .i64 0], .int .i64 er])))) :
    Calls Tryd.prog 13 #[.int .u64 (p : Int), .int .i64 hz] w (ValEnd w (.bool true)) := by
  have EQ1 := eqlL 0 0
  have kst : ∀ (a : Addr) (x : Nat) (w : World), (store a (.float .f64 x)).run Tryd.prog w = stored Tryd.prog w a (.float .f64 x) .plain := fun a x w => run_store _ _ _ _ _ rfl
  go_enter Tryd.func13, Tryd.ntmps13
  go_wp2_with fail
  with_reducible refine (HA.out _ (Below.refl _ _)).mono ?_
  rintro e w1 ⟨rfl, hb⟩
  have HB1 := Lib.hid ((Below.refl w.heap.size w).trans (hb.mono (by simp <;> omega)))
  clear hb
  go_wp2_with fail
  with_reducible refine (HO.out _).mono ?_
  rintro e w2 ⟨rfl, hb⟩
  have HB2 := Lib.hid (HB1.out.trans (hb.mono (by have := HB1.out.size; simp <;> omega)))
  clear hb
  go_wp2_with fail
  with_reducible refine (HP.out _ (HB2.out.alloc HB2.out.size _)).mono ?_
  rintro e w3 ⟨rfl, hb⟩
  have Kr := (BlkL.new _ [.float .f64 p, .float .f64 0, .int .i64 hz] 54).below hb
  try simp only [World.size_alloc] at Kr
  have HB3 := Lib.hid ((HB2.out.alloc (by have := HB2.out.size; simp; omega) _).trans (hb.mono (by have := HB2.out.size; simp <;> omega)))
  clear hb
  have cr0 := Kr.cell 0 _ rfl
  have cr1 := Kr.cell 1 _ rfl
  have cr2 := Kr.cell 2 _ rfl
  have zr := Kr.lt
  have HKr3 := Lib.hid Kr
  clear Kr
  go_wp2
  go_ret
  exact ⟨rfl, (HB3.out.alloc (by have := HB3.out.size; simp; omega) _)⟩


set_option maxHeartbeats 1600000 in
theorem rateNever_a_gt (w : World) (p x : Nat) (hz T : Int)
    (HA : Hid (∀ w', Below w.heap.size w w' → Calls Tryd.prog 43 #[] w' (ValEnd w' (.bool true))))
    (HO : Hid (∀ w, Calls Tryd.prog 40 #[.int .u64 (p : Int), .int .u64 0, .int .i64 hz] w (ValEnd w (RateV p 0 hz))))
    (HP : Hid (∀ w', Below w.heap.size w w' → Calls Tryd.prog 41 #[RateV p 0 hz] w' (ValEnd w' (.tuple #[.agg #[.int .i64 T, .int .i64 0], .int .i64 0]))))
    (HR : Hid (∀ w, Calls Tryd.prog 45 #[.agg #[.int .i64 T, .int .i64 0], .int .i64 hz] w (ValEnd w (.tuple #[.float .f64 x, .int .i64 0]))))
    (hT1 : 1 ≤ T)
    (hT2 : T ≤ 4611686018427387903)
    (hT : ¬ 1 < T)
    (hc : FloatKind.f64.format.order p 9110782046170513408 = some .gt) :
    Calls Tryd.prog 13 #[.int .u64 (p : Int), .int .i64 hz] w (ValEnd w (.bool true)) := by
  have EQ1 := eqlL 0 0
  have kst : ∀ (a : Addr) (x : Nat) (w : World), (store a (.float .f64 x)).run Tryd.prog w = stored Tryd.prog w a (.float .f64 x) .plain := fun a x w => run_store _ _ _ _ _ rfl
  go_enter Tryd.func13, Tryd.ntmps13
  go_wp2_with fail
  with_reducible refine (HA.out _ (Below.refl _ _)).mono ?_
  rintro e w1 ⟨rfl, hb⟩
  have HB1 := Lib.hid ((Below.refl w.heap.size w).trans (hb.mono (by simp <;> omega)))
  clear hb
  go_wp2_with fail
  with_reducible refine (HO.out _).mono ?_
  rintro e w2 ⟨rfl, hb⟩
  have HB2 := Lib.hid (HB1.out.trans (hb.mono (by have := HB1.out.size; simp <;> omega)))
  clear hb
  go_wp2_with fail
  with_reducible refine (HP.out _ (HB2.out.alloc HB2.out.size _)).mono ?_
  rintro e w3 ⟨rfl, hb⟩
  have Kr := (BlkL.new _ [.float .f64 p, .float .f64 0, .int .i64 hz] 54).below hb
  try simp only [World.size_alloc] at Kr
  have HB3 := Lib.hid ((HB2.out.alloc (by have := HB2.out.size; simp; omega) _).trans (hb.mono (by have := HB2.out.size; simp <;> omega)))
  clear hb
  have cr0 := Kr.cell 0 _ rfl
  have cr1 := Kr.cell 1 _ rfl
  have cr2 := Kr.cell 2 _ rfl
  have zr := Kr.lt
  have HKr3 := Lib.hid Kr
  clear Kr
  go_wp2_with fail
  with_reducible refine (HR.out _).mono ?_
  rintro e w4 ⟨rfl, hb⟩
  have Kr := (HKr3.out.alloc _).below hb
  have Kl := (BlkL.new _ [.int .i64 T, .int .i64 0] 57).below hb
  try simp only [World.size_alloc] at Kl
  have HB4 := Lib.hid ((HB3.out.alloc (by have := HB3.out.size; simp; omega) _).trans (hb.mono (by have := HB3.out.size; simp <;> omega)))
  clear hb cr0 cr1 cr2 zr
  have cr0 := Kr.cell 0 _ rfl
  have cr1 := Kr.cell 1 _ rfl
  have cr2 := Kr.cell 2 _ rfl
  have zr := Kr.lt
  have cl0 := Kl.cell 0 _ rfl
  have cl1 := Kl.cell 1 _ rfl
  have zl := Kl.lt
  have HKr4 := Lib.hid Kr
  have HKl4 := Lib.hid Kl
  clear Kr Kl
  go_wp2
  go_ret
  exact ⟨rfl, HB4.out⟩


set_option maxHeartbeats 1600000 in
theorem rateNever_a_eq (w : World) (p x : Nat) (hz T : Int)
    (HA : Hid (∀ w', Below w.heap.size w w' → Calls Tryd.prog 43 #[] w' (ValEnd w' (.bool true))))
    (HO : Hid (∀ w, Calls Tryd.prog 40 #[.int .u64 (p : Int), .int .u64 0, .int .i64 hz] w (ValEnd w (RateV p 0 hz))))
    (HP : Hid (∀ w', Below w.heap.size w w' → Calls Tryd.prog 41 #[RateV p 0 hz] w' (ValEnd w' (.tuple #[.agg #[.int .i64 T, .int .i64 0], .int .i64 0]))))
    (HR : Hid (∀ w, Calls Tryd.prog 45 #[.agg #[.int .i64 T, .int .i64 0], .int .i64 hz] w (ValEnd w (.tuple #[.float .f64 x, .int .i64 0]))))
    (hT1 : 1 ≤ T)
    (hT2 : T ≤ 4611686018427387903)
    (hT : ¬ 1 < T)
    (hc : FloatKind.f64.format.order p 9110782046170513408 = some .eq) :
    Calls Tryd.prog 13 #[.int .u64 (p : Int), .int .i64 hz] w (ValEnd w (.bool true)) := by
  have EQ1 := eqlL 0 0
  have kst : ∀ (a : Addr) (x : Nat) (w : World), (store a (.float .f64 x)).run Tryd.prog w = stored Tryd.prog w a (.float .f64 x) .plain := fun a x w => run_store _ _ _ _ _ rfl
  go_enter Tryd.func13, Tryd.ntmps13
  go_wp2_with fail
  with_reducible refine (HA.out _ (Below.refl _ _)).mono ?_
  rintro e w1 ⟨rfl, hb⟩
  have HB1 := Lib.hid ((Below.refl w.heap.size w).trans (hb.mono (by simp <;> omega)))
  clear hb
  go_wp2_with fail
  with_reducible refine (HO.out _).mono ?_
  rintro e w2 ⟨rfl, hb⟩
  have HB2 := Lib.hid (HB1.out.trans (hb.mono (by have := HB1.out.size; simp <;> omega)))
  clear hb
  go_wp2_with fail
  with_reducible refine (HP.out _ (HB2.out.alloc HB2.out.size _)).mono ?_
  rintro e w3 ⟨rfl, hb⟩
  have Kr := (BlkL.new _ [.float .f64 p, .float .f64 0, .int .i64 hz] 54).below hb
  try simp only [World.size_alloc] at Kr
  have HB3 := Lib.hid ((HB2.out.alloc (by have := HB2.out.size; simp; omega) _).trans (hb.mono (by have := HB2.out.size; simp <;> omega)))
  clear hb
  have cr0 := Kr.cell 0 _ rfl
  have cr1 := Kr.cell 1 _ rfl
  have cr2 := Kr.cell 2 _ rfl
  have zr := Kr.lt
  have HKr3 := Lib.hid Kr
  clear Kr
  go_wp2_with fail
  with_reducible refine (HR.out _).mono ?_
  rintro e w4 ⟨rfl, hb⟩
  have Kr := (HKr3.out.alloc _).below hb
  have Kl := (BlkL.new _ [.int .i64 T, .int .i64 0] 57).below hb
  try simp only [World.size_alloc] at Kl
  have HB4 := Lib.hid ((HB3.out.alloc (by have := HB3.out.size; simp; omega) _).trans (hb.mono (by have := HB3.out.size; simp <;> omega)))
  clear hb cr0 cr1 cr2 zr
  have cr0 := Kr.cell 0 _ rfl
  have cr1 := Kr.cell 1 _ rfl
  have cr2 := Kr.cell 2 _ rfl
  have zr := Kr.lt
  have cl0 := Kl.cell 0 _ rfl
  have cl1 := Kl.cell 1 _ rfl
  have zl := Kl.lt
  have HKr4 := Lib.hid Kr
  have HKl4 := Lib.hid Kl
  clear Kr Kl
  go_wp2
  go_ret
  exact ⟨rfl, HB4.out⟩


set_option maxHeartbeats 1600000 in
theorem rateNever_b (w : World) (p x q : Nat) (hz T T2 : Int)
    (HA : Hid (∀ w', Below w.heap.size w w' → Calls Tryd.prog 43 #[] w' (ValEnd w' (.bool true))))
    (HO : Hid (∀ w, Calls Tryd.prog 40 #[.int .u64 (p : Int), .int .u64 0, .int .i64 hz] w (ValEnd w (RateV p 0 hz))))
    (HP : Hid (∀ w', Below w.heap.size w w' → Calls Tryd.prog 41 #[RateV p 0 hz] w' (ValEnd w' (.tuple #[.agg #[.int .i64 T, .int .i64 0], .int .i64 0]))))
    (HR : Hid (∀ w, Calls Tryd.prog 45 #[.agg #[.int .i64 T, .int .i64 0], .int .i64 hz] w (ValEnd w (.tuple #[.float .f64 x, .int .i64 0]))))
    (hT1 : 1 ≤ T)
    (hT2 : T ≤ 4611686018427387903)
    (hT : ¬ 1 < T)
    (hc : FloatKind.f64.format.order p 9110782046170513408 = some .lt)
    (HM : Hid (∀ w, (binOp .mul 23 (.float .f64 4611686018427387904) (.float .f64 p)).run Tryd.prog w = .ok (.float .f64 q) w))
    (HQ : Hid (∀ w', Below w.heap.size w w' → Calls Tryd.prog 41 #[RateV q 0 hz] w' (ValEnd w' (.tuple #[.agg #[.int .i64 T2, .int .i64 0], .int .i64 0]))))
    (h2 : T2 ≤ T)
    (h3 : T / 2 ≤ T2)
    (h4 : 0 ≤ T2) :
    Calls Tryd.prog 13 #[.int .u64 (p : Int), .int .i64 hz] w (ValEnd w (.bool true)) := by
  have EQ1 := eqlL 0 0
  have kst : ∀ (a : Addr) (x : Nat) (w : World), (store a (.float .f64 x)).run Tryd.prog w = stored Tryd.prog w a (.float .f64 x) .plain := fun a x w => run_store _ _ _ _ _ rfl
  have HM2 := HM.out
  go_enter Tryd.func13, Tryd.ntmps13
  go_wp2_with fail
  with_reducible refine (HA.out _ (Below.refl _ _)).mono ?_
  rintro e w1 ⟨rfl, hb⟩
  have HB1 := Lib.hid ((Below.refl w.heap.size w).trans (hb.mono (by simp <;> omega)))
  clear hb
  go_wp2_with fail
  with_reducible refine (HO.out _).mono ?_
  rintro e w2 ⟨rfl, hb⟩
  have HB2 := Lib.hid (HB1.out.trans (hb.mono (by have := HB1.out.size; simp <;> omega)))
  clear hb
  go_wp2_with fail
  with_reducible refine (HP.out _ (HB2.out.alloc HB2.out.size _)).mono ?_
  rintro e w3 ⟨rfl, hb⟩
  have Kr := (BlkL.new _ [.float .f64 p, .float .f64 0, .int .i64 hz] 54).below hb
  try simp only [World.size_alloc] at Kr
  have HB3 := Lib.hid ((HB2.out.alloc (by have := HB2.out.size; simp; omega) _).trans (hb.mono (by have := HB2.out.size; simp <;> omega)))
  clear hb
  have cr0 := Kr.cell 0 _ rfl
  have cr1 := Kr.cell 1 _ rfl
  have cr2 := Kr.cell 2 _ rfl
  have zr := Kr.lt
  have HKr3 := Lib.hid Kr
  clear Kr
  go_wp2_with fail
  with_reducible refine (HR.out _).mono ?_
  rintro e w4 ⟨rfl, hb⟩
  have Kr := (HKr3.out.alloc _).below hb
  have Kl := (BlkL.new _ [.int .i64 T, .int .i64 0] 57).below hb
  try simp only [World.size_alloc] at Kl
  have HB4 := Lib.hid ((HB3.out.alloc (by have := HB3.out.size; simp; omega) _).trans (hb.mono (by have := HB3.out.size; simp <;> omega)))
  clear hb cr0 cr1 cr2 zr
  have cr0 := Kr.cell 0 _ rfl
  have cr1 := Kr.cell 1 _ rfl
  have cr2 := Kr.cell 2 _ rfl
  have zr := Kr.lt
  have cl0 := Kl.cell 0 _ rfl
  have cl1 := Kl.cell 1 _ rfl
  have zl := Kl.lt
  have HKr4 := Lib.hid Kr
  have HKl4 := Lib.hid Kl
  clear Kr Kl
  go_wp2_with fail
  with_reducible refine (HQ.out _ HB4.out).mono ?_
  rintro e w5 ⟨rfl, hb⟩
  have Kr := HKr4.out.below hb
  have Kl := HKl4.out.below hb
  have HB5 := Lib.hid (HB4.out.trans (hb.mono (by have := HB4.out.size; simp <;> omega)))
  clear hb cr0 cr1 cr2 zr cl0 cl1 zl
  have cl0 := Kl.cell 0 _ rfl
  have cl1 := Kl.cell 1 _ rfl
  have zl := Kl.lt
  have HKr5 := Lib.hid Kr
  have HKl5 := Lib.hid Kl
  clear Kr Kl
  go_wp2
  go_ret
  exact ⟨rfl, (HB5.out.alloc (by have := HB5.out.size; simp; omega) _)⟩


set_option maxHeartbeats 1600000 in
theorem rateNever_c_gt_lt_gt (w : World) (p x y : Nat) (hz T : Int)
    (HA : Hid (∀ w', Below w.heap.size w w' → Calls Tryd.prog 43 #[] w' (ValEnd w' (.bool true))))
    (HO : Hid (∀ w, Calls Tryd.prog 40 #[.int .u64 (p : Int), .int .u64 0, .int .i64 hz] w (ValEnd w (RateV p 0 hz))))
    (HP : Hid (∀ w', Below w.heap.size w w' → Calls Tryd.prog 41 #[RateV p 0 hz] w' (ValEnd w' (.tuple #[.agg #[.int .i64 T, .int .i64 0], .int .i64 0]))))
    (HR : Hid (∀ w, Calls Tryd.prog 45 #[.agg #[.int .i64 T, .int .i64 0], .int .i64 hz] w (ValEnd w (.tuple #[.float .f64 x, .int .i64 0]))))
    (hT1 : 1 ≤ T)
    (hT2 : T ≤ 4611686018427387903)
    (hT : 1 < T)
    (hx : FloatKind.f64.format.order x p = some .lt)
    (HY : Hid (∀ w, Calls Tryd.prog 45 #[.agg #[.int .i64 (T - 1), .int .i64 0], .int .i64 hz] w (ValEnd w (.tuple #[.float .f64 y, .int .i64 0]))))
    (hy : FloatKind.f64.format.order y p = some .gt)
    (hc : FloatKind.f64.format.order p 9110782046170513408 = some .gt) :
    Calls Tryd.prog 13 #[.int .u64 (p : Int), .int .i64 hz] w (ValEnd w (.bool true)) := by
  have EQ1 := eqlL 0 0
  have kst : ∀ (a : Addr) (x : Nat) (w : World), (store a (.float .f64 x)).run Tryd.prog w = stored Tryd.prog w a (.float .f64 x) .plain := fun a x w => run_store _ _ _ _ _ rfl
  go_enter Tryd.func13, Tryd.ntmps13
  go_wp2_with fail
  with_reducible refine (HA.out _ (Below.refl _ _)).mono ?_
  rintro e w1 ⟨rfl, hb⟩
  have HB1 := Lib.hid ((Below.refl w.heap.size w).trans (hb.mono (by simp <;> omega)))
  clear hb
  go_wp2_with fail
  with_reducible refine (HO.out _).mono ?_
  rintro e w2 ⟨rfl, hb⟩
  have HB2 := Lib.hid (HB1.out.trans (hb.mono (by have := HB1.out.size; simp <;> omega)))
  clear hb
  go_wp2_with fail
  with_reducible refine (HP.out _ (HB2.out.alloc HB2.out.size _)).mono ?_
  rintro e w3 ⟨rfl, hb⟩
  have Kr := (BlkL.new _ [.float .f64 p, .float .f64 0, .int .i64 hz] 54).below hb
  try simp only [World.size_alloc] at Kr
  have HB3 := Lib.hid ((HB2.out.alloc (by have := HB2.out.size; simp; omega) _).trans (hb.mono (by have := HB2.out.size; simp <;> omega)))
  clear hb
  have cr0 := Kr.cell 0 _ rfl
  have cr1 := Kr.cell 1 _ rfl
  have cr2 := Kr.cell 2 _ rfl
  have zr := Kr.lt
  have HKr3 := Lib.hid Kr
  clear Kr
  go_wp2_with fail
  with_reducible refine (HR.out _).mono ?_
  rintro e w4 ⟨rfl, hb⟩
  have Kr := (HKr3.out.alloc _).below hb
  have Kl := (BlkL.new _ [.int .i64 T, .int .i64 0] 57).below hb
  try simp only [World.size_alloc] at Kl
  have HB4 := Lib.hid ((HB3.out.alloc (by have := HB3.out.size; simp; omega) _).trans (hb.mono (by have := HB3.out.size; simp <;> omega)))
  clear hb cr0 cr1 cr2 zr
  have cr0 := Kr.cell 0 _ rfl
  have cr1 := Kr.cell 1 _ rfl
  have cr2 := Kr.cell 2 _ rfl
  have zr := Kr.lt
  have cl0 := Kl.cell 0 _ rfl
  have cl1 := Kl.cell 1 _ rfl
  have zl := Kl.lt
  have HKr4 := Lib.hid Kr
  have HKl4 := Lib.hid Kl
  clear Kr Kl
  go_wp2_with fail
  with_reducible refine (HY.out _).mono ?_
  rintro e w5 ⟨rfl, hb⟩
  have Kr := HKr4.out.below hb
  have Kl := HKl4.out.below hb
  have HB5 := Lib.hid (HB4.out.trans (hb.mono (by have := HB4.out.size; simp <;> omega)))
  clear hb cr0 cr1 cr2 zr cl0 cl1 zl
  have cr0 := Kr.cell 0 _ rfl
  have cr1 := Kr.cell 1 _ rfl
  have cr2 := Kr.cell 2 _ rfl
  have zr := Kr.lt
  have cl0 := Kl.cell 0 _ rfl
  have cl1 := Kl.cell 1 _ rfl
  have zl := Kl.lt
  have HKr5 := Lib.hid Kr
  have HKl5 := Lib.hid Kl
  clear Kr Kl
  go_wp2
  go_ret
  exact ⟨rfl, HB5.out⟩


set_option maxHeartbeats 1600000 in
theorem rateNever_c_gt_lt_eq (w : World) (p x y : Nat) (hz T : Int)
    (HA : Hid (∀ w', Below w.heap.size w w' → Calls Tryd.prog 43 #[] w' (ValEnd w' (.bool true))))
    (HO : Hid (∀ w, Calls Tryd.prog 40 #[.int .u64 (p : Int), .int .u64 0, .int .i64 hz] w (ValEnd w (RateV p 0 hz))))
    (HP : Hid (∀ w', Below w.heap.size w w' → Calls Tryd.prog 41 #[RateV p 0 hz] w' (ValEnd w' (.tuple #[.agg #[.int .i64 T, .int .i64 0], .int .i64 0]))))
    (HR : Hid (∀ w, Calls Tryd.prog 45 #[.agg #[.int .i64 T, .int .i64 0], .int .i64 hz] w (ValEnd w (.tuple #[.float .f64 x, .int .i64 0]))))
    (hT1 : 1 ≤ T)
    (hT2 : T ≤ 4611686018427387903)
    (hT : 1 < T)
    (hx : FloatKind.f64.format.order x p = some .lt)
    (HY : Hid (∀ w, Calls Tryd.prog 45 #[.agg #[.int .i64 (T - 1), .int .i64 0], .int .i64 hz] w (ValEnd w (.tuple #[.float .f64 y, .int .i64 0]))))
    (hy : FloatKind.f64.format.order y p = some .eq)
    (hc : FloatKind.f64.format.order p 9110782046170513408 = some .gt) :
    Calls Tryd.prog 13 #[.int .u64 (p : Int), .int .i64 hz] w (ValEnd w (.bool true)) := by
  have EQ1 := eqlL 0 0
  have kst : ∀ (a : Addr) (x : Nat) (w : World), (store a (.float .f64 x)).run Tryd.prog w = stored Tryd.prog w a (.float .f64 x) .plain := fun a x w => run_store _ _ _ _ _ rfl
  go_enter Tryd.func13, Tryd.ntmps13
  go_wp2_with fail
  with_reducible refine (HA.out _ (Below.refl _ _)).mono ?_
  rintro e w1 ⟨rfl, hb⟩
  have HB1 := Lib.hid ((Below.refl w.heap.size w).trans (hb.mono (by simp <;> omega)))
  clear hb
  go_wp2_with fail
  with_reducible refine (HO.out _).mono ?_
  rintro e w2 ⟨rfl, hb⟩
  have HB2 := Lib.hid (HB1.out.trans (hb.mono (by have := HB1.out.size; simp <;> omega)))
  clear hb
  go_wp2_with fail
  with_reducible refine (HP.out _ (HB2.out.alloc HB2.out.size _)).mono ?_
  rintro e w3 ⟨rfl, hb⟩
  have Kr := (BlkL.new _ [.float .f64 p, .float .f64 0, .int .i64 hz] 54).below hb
  try simp only [World.size_alloc] at Kr
  have HB3 := Lib.hid ((HB2.out.alloc (by have := HB2.out.size; simp; omega) _).trans (hb.mono (by have := HB2.out.size; simp <;> omega)))
  clear hb
  have cr0 := Kr.cell 0 _ rfl
  have cr1 := Kr.cell 1 _ rfl
  have cr2 := Kr.cell 2 _ rfl
  have zr := Kr.lt
  have HKr3 := Lib.hid Kr
  clear Kr
  go_wp2_with fail
  with_reducible refine (HR.out _).mono ?_
  rintro e w4 ⟨rfl, hb⟩
  have Kr := (HKr3.out.alloc _).below hb
  have Kl := (BlkL.new _ [.int .i64 T, .int .i64 0] 57).below hb
  try simp only [World.size_alloc] at Kl
  have HB4 := Lib.hid ((HB3.out.alloc (by have := HB3.out.size; simp; omega) _).trans (hb.mono (by have := HB3.out.size; simp <;> omega)))
  clear hb cr0 cr1 cr2 zr
  have cr0 := Kr.cell 0 _ rfl
  have cr1 := Kr.cell 1 _ rfl
  have cr2 := Kr.cell 2 _ rfl
  have zr := Kr.lt
  have cl0 := Kl.cell 0 _ rfl
  have cl1 := Kl.cell 1 _ rfl
  have zl := Kl.lt
  have HKr4 := Lib.hid Kr
  have HKl4 := Lib.hid Kl
  clear Kr Kl
  go_wp2_with fail
  with_reducible refine (HY.out _).mono ?_
  rintro e w5 ⟨rfl, hb⟩
  have Kr := HKr4.out.below hb
  have Kl := HKl4.out.below hb
  have HB5 := Lib.hid (HB4.out.trans (hb.mono (by have := HB4.out.size; simp <;> omega)))
  clear hb cr0 cr1 cr2 zr cl0 cl1 zl
  have cr0 := Kr.cell 0 _ rfl
  have cr1 := Kr.cell 1 _ rfl
  have cr2 := Kr.cell 2 _ rfl
  have zr := Kr.lt
  have cl0 := Kl.cell 0 _ rfl
  have cl1 := Kl.cell 1 _ rfl
  have zl := Kl.lt
  have HKr5 := Lib.hid Kr
  have HKl5 := Lib.hid Kl
  clear Kr Kl
  go_wp2
  go_ret
  exact ⟨rfl, HB5.out⟩


set_option maxHeartbeats 1600000 in
theorem rateNever_c_gt_eq_gt (w : World) (p x y : Nat) (hz T : Int)
    (HA : Hid (∀ w', Below w.heap.size w w' → Calls Tryd.prog 43 #[] w' (ValEnd w' (.bool true))))
    (HO : Hid (∀ w, Calls Tryd.prog 40 #[.int .u64 (p : Int), .int .u64 0, .int .i64 hz] w (ValEnd w (RateV p 0 hz))))
    (HP : Hid (∀ w', Below w.heap.size w w' → Calls Tryd.prog 41 #[RateV p 0 hz] w' (ValEnd w' (.tuple #[.agg #[.int .i64 T, .int .i64 0], .int .i64 0]))))
    (HR : Hid (∀ w, Calls Tryd.prog 45 #[.agg #[.int .i64 T, .int .i64 0], .int .i64 hz] w (ValEnd w (.tuple #[.float .f64 x, .int .i64 0]))))
    (hT1 : 1 ≤ T)
    (hT2 : T ≤ 4611686018427387903)
    (hT : 1 < T)
    (hx : FloatKind.f64.format.order x p = some .eq)
    (HY : Hid (∀ w, Calls Tryd.prog 45 #[.agg #[.int .i64 (T - 1), .int .i64 0], .int .i64 hz] w (ValEnd w (.tuple #[.float .f64 y, .int .i64 0]))))
    (hy : FloatKind.f64.format.order y p = some .gt)
    (hc : FloatKind.f64.format.order p 9110782046170513408 = some .gt) :
    Calls Tryd.prog 13 #[.int .u64 (p : Int), .int .i64 hz] w (ValEnd w (.bool true)) := by
  have EQ1 := eqlL 0 0
  have kst : ∀ (a : Addr) (x : Nat) (w : World), (store a (.float .f64 x)).run Tryd.prog w = stored Tryd.prog w a (.float .f64 x) .plain := fun a x w => run_store _ _ _ _ _ rfl
  go_enter Tryd.func13, Tryd.ntmps13
  go_wp2_with fail
  with_reducible refine (HA.out _ (Below.refl _ _)).mono ?_
  rintro e w1 ⟨rfl, hb⟩
  have HB1 := Lib.hid ((Below.refl w.heap.size w).trans (hb.mono (by simp <;> omega)))
  clear hb
  go_wp2_with fail
  with_reducible refine (HO.out _).mono ?_
  rintro e w2 ⟨rfl, hb⟩
  have HB2 := Lib.hid (HB1.out.trans (hb.mono (by have := HB1.out.size; simp <;> omega)))
  clear hb
  go_wp2_with fail
  with_reducible refine (HP.out _ (HB2.out.alloc HB2.out.size _)).mono ?_
  rintro e w3 ⟨rfl, hb⟩
  have Kr := (BlkL.new _ [.float .f64 p, .float .f64 0, .int .i64 hz] 54).below hb
  try simp only [World.size_alloc] at Kr
  have HB3 := Lib.hid ((HB2.out.alloc (by have := HB2.out.size; simp; omega) _).trans (hb.mono (by have := HB2.out.size; simp <;> omega)))
  clear hb
  have cr0 := Kr.cell 0 _ rfl
  have cr1 := Kr.cell 1 _ rfl
  have cr2 := Kr.cell 2 _ rfl
  have zr := Kr.lt
  have HKr3 := Lib.hid Kr
  clear Kr
  go_wp2_with fail
  with_reducible refine (HR.out _).mono ?_
  rintro e w4 ⟨rfl, hb⟩
  have Kr := (HKr3.out.alloc _).below hb
  have Kl := (BlkL.new _ [.int .i64 T, .int .i64 0] 57).below hb
  try simp only [World.size_alloc] at Kl
  have HB4 := Lib.hid ((HB3.out.alloc (by have := HB3.out.size; simp; omega) _).trans (hb.mono (by have := HB3.out.size; simp <;> omega)))
  clear hb cr0 cr1 cr2 zr
  have cr0 := Kr.cell 0 _ rfl
  have cr1 := Kr.cell 1 _ rfl
  have cr2 := Kr.cell 2 _ rfl
  have zr := Kr.lt
  have cl0 := Kl.cell 0 _ rfl
  have cl1 := Kl.cell 1 _ rfl
  have zl := Kl.lt
  have HKr4 := Lib.hid Kr
  have HKl4 := Lib.hid Kl
  clear Kr Kl
  go_wp2_with fail
  with_reducible refine (HY.out _).mono ?_
  rintro e w5 ⟨rfl, hb⟩
  have Kr := HKr4.out.below hb
  have Kl := HKl4.out.below hb
  have HB5 := Lib.hid (HB4.out.trans (hb.mono (by have := HB4.out.size; simp <;> omega)))
  clear hb cr0 cr1 cr2 zr cl0 cl1 zl
  have cr0 := Kr.cell 0 _ rfl
  have cr1 := Kr.cell 1 _ rfl
  have cr2 := Kr.cell 2 _ rfl
  have zr := Kr.lt
  have cl0 := Kl.cell 0 _ rfl
  have cl1 := Kl.cell 1 _ rfl
  have zl := Kl.lt
  have HKr5 := Lib.hid Kr
  have HKl5 := Lib.hid Kl
  clear Kr Kl
  go_wp2
  go_ret
  exact ⟨rfl, HB5.out⟩


set_option maxHeartbeats 1600000 in
theorem rateNever_c_gt_eq_eq (w : World) (p x y : Nat) (hz T : Int)
    (HA : Hid (∀ w', Below w.heap.size w w' → Calls Tryd.prog 43 #[] w' (ValEnd w' (.bool true))))
    (HO : Hid (∀ w, Calls Tryd.prog 40 #[.int .u64 (p : Int), .int .u64 0, .int .i64 hz] w (ValEnd w (RateV p 0 hz))))
    (HP : Hid (∀ w', Below w.heap.size w w' → Calls Tryd.prog 41 #[RateV p 0 hz] w' (ValEnd w' (.tuple #[.agg #[.int .i64 T, .int .i64 0], .int .i64 0]))))
    (HR : Hid (∀ w, Calls Tryd.prog 45 #[.agg #[.int .i64 T, .int .i64 0], .int .i64 hz] w (ValEnd w (.tuple #[.float .f64 x, .int .i64 0]))))
    (hT1 : 1 ≤ T)
    (hT2 : T ≤ 4611686018427387903)
    (hT : 1 < T)
    (hx : FloatKind.f64.format.order x p = some .eq)
    (HY : Hid (∀ w, Calls Tryd.prog 45 #[.agg #[.int .i64 (T - 1), .int .i64 0], .int .i64 hz] w (ValEnd w (.tuple #[.float .f64 y, .int .i64 0]))))
    (hy : FloatKind.f64.format.order y p = some .eq)
    (hc : FloatKind.f64.format.order p 9110782046170513408 = some .gt) :
    Calls Tryd.prog 13 #[.int .u64 (p : Int), .int .i64 hz] w (ValEnd w (.bool true)) := by
  have EQ1 := eqlL 0 0
  have kst : ∀ (a : Addr) (x : Nat) (w : World), (store a (.float .f64 x)).run Tryd.prog w = stored Tryd.prog w a (.float .f64 x) .plain := fun a x w => run_store _ _ _ _ _ rfl
  go_enter Tryd.func13, Tryd.ntmps13
  go_wp2_with fail
  with_reducible refine (HA.out _ (Below.refl _ _)).mono ?_
  rintro e w1 ⟨rfl, hb⟩
  have HB1 := Lib.hid ((Below.refl w.heap.size w).trans (hb.mono (by simp <;> omega)))
  clear hb
  go_wp2_with fail
  with_reducible refine (HO.out _).mono ?_
  rintro e w2 ⟨rfl, hb⟩
  have HB2 := Lib.hid (HB1.out.trans (hb.mono (by have := HB1.out.size; simp <;> omega)))
  clear hb
  go_wp2_with fail
  with_reducible refine (HP.out _ (HB2.out.alloc HB2.out.size _)).mono ?_
  rintro e w3 ⟨rfl, hb⟩
  have Kr := (BlkL.new _ [.float .f64 p, .float .f64 0, .int .i64 hz] 54).below hb
  try simp only [World.size_alloc] at Kr
  have HB3 := Lib.hid ((HB2.out.alloc (by have := HB2.out.size; simp; omega) _).trans (hb.mono (by have := HB2.out.size; simp <;> omega)))
  clear hb
  have cr0 := Kr.cell 0 _ rfl
  have cr1 := Kr.cell 1 _ rfl
  have cr2 := Kr.cell 2 _ rfl
  have zr := Kr.lt
  have HKr3 := Lib.hid Kr
  clear Kr
  go_wp2_with fail
  with_reducible refine (HR.out _).mono ?_
  rintro e w4 ⟨rfl, hb⟩
  have Kr := (HKr3.out.alloc _).below hb
  have Kl := (BlkL.new _ [.int .i64 T, .int .i64 0] 57).below hb
  try simp only [World.size_alloc] at Kl
  have HB4 := Lib.hid ((HB3.out.alloc (by have := HB3.out.size; simp; omega) _).trans (hb.mono (by have := HB3.out.size; simp <;> omega)))
  clear hb cr0 cr1 cr2 zr
  have cr0 := Kr.cell 0 _ rfl
  have cr1 := Kr.cell 1 _ rfl
  have cr2 := Kr.cell 2 _ rfl
  have zr := Kr.lt
  have cl0 := Kl.cell 0 _ rfl
  have cl1 := Kl.cell 1 _ rfl
  have zl := Kl.lt
  have HKr4 := Lib.hid Kr
  have HKl4 := Lib.hid Kl
  clear Kr Kl
  go_wp2_with fail
  with_reducible refine (HY.out _).mono ?_
  rintro e w5 ⟨rfl, hb⟩
  have Kr := HKr4.out.below hb
  have Kl := HKl4.out.below hb
  have HB5 := Lib.hid (HB4.out.trans (hb.mono (by have := HB4.out.size; simp <;> omega)))
  clear hb cr0 cr1 cr2 zr cl0 cl1 zl
  have cr0 := Kr.cell 0 _ rfl
  have cr1 := Kr.cell 1 _ rfl
  have cr2 := Kr.cell 2 _ rfl
  have zr := Kr.lt
  have cl0 := Kl.cell 0 _ rfl
  have cl1 := Kl.cell 1 _ rfl
  have zl := Kl.lt
  have HKr5 := Lib.hid Kr
  have HKl5 := Lib.hid Kl
  clear Kr Kl
  go_wp2
  go_ret
  exact ⟨rfl, HB5.out⟩


set_option maxHeartbeats 1600000 in
theorem rateNever_c_eq_lt_gt (w : World) (p x y : Nat) (hz T : Int)
    (HA : Hid (∀ w', Below w.heap.size w w' → Calls Tryd.prog 43 #[] w' (ValEnd w' (.bool true))))
    (HO : Hid (∀ w, Calls Tryd.prog 40 #[.int .u64 (p : Int), .int .u64 0, .int .i64 hz] w (ValEnd w (RateV p 0 hz))))
    (HP : Hid (∀ w', Below w.heap.size w w' → Calls Tryd.prog 41 #[RateV p 0 hz] w' (ValEnd w' (.tuple #[.agg #[.int .i64 T, .int .i64 0], .int .i64 0]))))
    (HR : Hid (∀ w, Calls Tryd.prog 45 #[.agg #[.int .i64 T, .int .i64 0], .int .i64 hz] w (ValEnd w (.tuple #[.float .f64 x, .int .i64 0]))))
    (hT1 : 1 ≤ T)
    (hT2 : T ≤ 4611686018427387903)
    (hT : 1 < T)
    (hx : FloatKind.f64.format.order x p = some .lt)
    (HY : Hid (∀ w, Calls Tryd.prog 45 #[.agg #[.int .i64 (T - 1), .int .i64 0], .int .i64 hz] w (ValEnd w (.tuple #[.float .f64 y, .int .i64 0]))))
    (hy : FloatKind.f64.format.order y p = some .gt)
    (hc : FloatKind.f64.format.order p 9110782046170513408 = some .eq) :
    Calls Tryd.prog 13 #[.int .u64 (p : Int), .int .i64 hz] w (ValEnd w (.bool true)) := by
  have EQ1 := eqlL 0 0
  have kst : ∀ (a : Addr) (x : Nat) (w : World), (store a (.float .f64 x)).run Tryd.prog w = stored Tryd.prog w a (.float .f64 x) .plain := fun a x w => run_store _ _ _ _ _ rfl
  go_enter Tryd.func13, Tryd.ntmps13
  go_wp2_with fail
  with_reducible refine (HA.out _ (Below.refl _ _)).mono ?_
  rintro e w1 ⟨rfl, hb⟩
  have HB1 := Lib.hid ((Below.refl w.heap.size w).trans (hb.mono (by simp <;> omega)))
  clear hb
  go_wp2_with fail
  with_reducible refine (HO.out _).mono ?_
  rintro e w2 ⟨rfl, hb⟩
  have HB2 := Lib.hid (HB1.out.trans (hb.mono (by have := HB1.out.size; simp <;> omega)))
  clear hb
  go_wp2_with fail
  with_reducible refine (HP.out _ (HB2.out.alloc HB2.out.size _)).mono ?_
  rintro e w3 ⟨rfl, hb⟩
  have Kr := (BlkL.new _ [.float .f64 p, .float .f64 0, .int .i64 hz] 54).below hb
  try simp only [World.size_alloc] at Kr
  have HB3 := Lib.hid ((HB2.out.alloc (by have := HB2.out.size; simp; omega) _).trans (hb.mono (by have := HB2.out.size; simp <;> omega)))
  clear hb
  have cr0 := Kr.cell 0 _ rfl
  have cr1 := Kr.cell 1 _ rfl
  have cr2 := Kr.cell 2 _ rfl
  have zr := Kr.lt
  have HKr3 := Lib.hid Kr
  clear Kr
  go_wp2_with fail
  with_reducible refine (HR.out _).mono ?_
  rintro e w4 ⟨rfl, hb⟩
  have Kr := (HKr3.out.alloc _).below hb
  have Kl := (BlkL.new _ [.int .i64 T, .int .i64 0] 57).below hb
  try simp only [World.size_alloc] at Kl
  have HB4 := Lib.hid ((HB3.out.alloc (by have := HB3.out.size; simp; omega) _).trans (hb.mono (by have := HB3.out.size; simp <;> omega)))
  clear hb cr0 cr1 cr2 zr
  have cr0 := Kr.cell 0 _ rfl
  have cr1 := Kr.cell 1 _ rfl
  have cr2 := Kr.cell 2 _ rfl
  have zr := Kr.lt
  have cl0 := Kl.cell 0 _ rfl
  have cl1 := Kl.cell 1 _ rfl
  have zl := Kl.lt
  have HKr4 := Lib.hid Kr
  have HKl4 := Lib.hid Kl
  clear Kr Kl
  go_wp2_with fail
  with_reducible refine (HY.out _).mono ?_
  rintro e w5 ⟨rfl, hb⟩
  have Kr := HKr4.out.below hb
  have Kl := HKl4.out.below hb
  have HB5 := Lib.hid (HB4.out.trans (hb.mono (by have := HB4.out.size; simp <;> omega)))
  clear hb cr0 cr1 cr2 zr cl0 cl1 zl
  have cr0 := Kr.cell 0 _ rfl
  have cr1 := Kr.cell 1 _ rfl
  have cr2 := Kr.cell 2 _ rfl
  have zr := Kr.lt
  have cl0 := Kl.cell 0 _ rfl
  have cl1 := Kl.cell 1 _ rfl
  have zl := Kl.lt
  have HKr5 := Lib.hid Kr
  have HKl5 := Lib.hid Kl
  clear Kr Kl
  go_wp2
  go_ret
  exact ⟨rfl, HB5.out⟩


set_option maxHeartbeats 1600000 in
theorem rateNever_c_eq_lt_eq (w : World) (p x y : Nat) (hz T : Int)
    (HA : Hid (∀ w', Below w.heap.size w w' → Calls Tryd.prog 43 #[] w' (ValEnd w' (.bool true))))
    (HO : Hid (∀ w, Calls Tryd.prog 40 #[.int .u64 (p : Int), .int .u64 0, .int .i64 hz] w (ValEnd w (RateV p 0 hz))))
    (HP : Hid (∀ w', Below w.heap.size w w' → Calls Tryd.prog 41 #[RateV p 0 hz] w' (ValEnd w' (.tuple #[.agg #[.int .i64 T, .int .i64 0], .int .i64 0]))))
    (HR : Hid (∀ w, Calls Tryd.prog 45 #[.agg #[.int .i64 T, .int .i64 0], .int .i64 hz] w (ValEnd w (.tuple #[.float .f64 x, .int .i64 0]))))
    (hT1 : 1 ≤ T)
    (hT2 : T ≤ 4611686018427387903)
    (hT : 1 < T)
    (hx : FloatKind.f64.format.order x p = some .lt)
    (HY : Hid (∀ w, Calls Tryd.prog 45 #[.agg #[.int .i64 (T - 1), .int .i64 0], .int .i64 hz] w (ValEnd w (.tuple #[.float .f64 y, .int .i64 0]))))
    (hy : FloatKind.f64.format.order y p = some .eq)
    (hc : FloatKind.f64.format.order p 9110782046170513408 = some .eq) :
    Calls Tryd.prog 13 #[.int .u64 (p : Int), .int .i64 hz] w (ValEnd w (.bool true)) := by
  have EQ1 := eqlL 0 0
  have kst : ∀ (a : Addr) (x : Nat) (w : World), (store a (.float .f64 x)).run Tryd.prog w = stored Tryd.prog w a (.float .f64 x) .plain := fun a x w => run_store _ _ _ _ _ rfl
  go_enter Tryd.func13, Tryd.ntmps13
  go_wp2_with fail
  with_reducible refine (HA.out _ (Below.refl _ _)).mono ?_
  rintro e w1 ⟨rfl, hb⟩
  have HB1 := Lib.hid ((Below.refl w.heap.size w).trans (hb.mono (by simp <;> omega)))
  clear hb
  go_wp2_with fail
  with_reducible refine (HO.out _).mono ?_
  rintro e w2 ⟨rfl, hb⟩
  have HB2 := Lib.hid (HB1.out.trans (hb.mono (by have := HB1.out.size; simp <;> omega)))
  clear hb
  go_wp2_with fail
  with_reducible refine (HP.out _ (HB2.out.alloc HB2.out.size _)).mono ?_
  rintro e w3 ⟨rfl, hb⟩
  have Kr := (BlkL.new _ [.float .f64 p, .float .f64 0, .int .i64 hz] 54).below hb
  try simp only [World.size_alloc] at Kr
  have HB3 := Lib.hid ((HB2.out.alloc (by have := HB2.out.size; simp; omega) _).trans (hb.mono (by have := HB2.out.size; simp <;> omega)))
  clear hb
  have cr0 := Kr.cell 0 _ rfl
  have cr1 := Kr.cell 1 _ rfl
  have cr2 := Kr.cell 2 _ rfl
  have zr := Kr.lt
  have HKr3 := Lib.hid Kr
  clear Kr
  go_wp2_with fail
  with_reducible refine (HR.out _).mono ?_
  rintro e w4 ⟨rfl, hb⟩
  have Kr := (HKr3.out.alloc _).below hb
  have Kl := (BlkL.new _ [.int .i64 T, .int .i64 0] 57).below hb
  try simp only [World.size_alloc] at Kl
  have HB4 := Lib.hid ((HB3.out.alloc (by have := HB3.out.size; simp; omega) _).trans (hb.mono (by have := HB3.out.size; simp <;> omega)))
  clear hb cr0 cr1 cr2 zr
  have cr0 := Kr.cell 0 _ rfl
  have cr1 := Kr.cell 1 _ rfl
  have cr2 := Kr.cell 2 _ rfl
  have zr := Kr.lt
  have cl0 := Kl.cell 0 _ rfl
  have cl1 := Kl.cell 1 _ rfl
  have zl := Kl.lt
  have HKr4 := Lib.hid Kr
  have HKl4 := Lib.hid Kl
  clear Kr Kl
  go_wp2_with fail
  with_reducible refine (HY.out _).mono ?_
  rintro e w5 ⟨rfl, hb⟩
  have Kr := HKr4.out.below hb
  have Kl := HKl4.out.below hb
  have HB5 := Lib.hid (HB4.out.trans (hb.mono (by have := HB4.out.size; simp <;> omega)))
  clear hb cr0 cr1 cr2 zr cl0 cl1 zl
  have cr0 := Kr.cell 0 _ rfl
  have cr1 := Kr.cell 1 _ rfl
  have cr2 := Kr.cell 2 _ rfl
  have zr := Kr.lt
  have cl0 := Kl.cell 0 _ rfl
  have cl1 := Kl.cell 1 _ rfl
  have zl := Kl.lt
  have HKr5 := Lib.hid Kr
  have HKl5 := Lib.hid Kl
  clear Kr Kl
  go_wp2
  go_ret
  exact ⟨rfl, HB5.out⟩


set_option maxHeartbeats 1600000 in
theorem rateNever_c_eq_eq_gt (w : World) (p x y : Nat) (hz T : Int)
    (HA : Hid (∀ w', Below w.heap.size w w' → Calls Tryd.prog 43 #[] w' (ValEnd w' (.bool true))))
    (HO : Hid (∀ w, Calls Tryd.prog 40 #[.int .u64 (p : Int), .int .u64 0, .int .i64 hz] w (ValEnd w (RateV p 0 hz))))
    (HP : Hid (∀ w', Below w.heap.size w w' → Calls Tryd.prog 41 #[RateV p 0 hz] w' (ValEnd w' (.tuple #[.agg #[.int .i64 T, .int .i64 0], .int .i64 0]))))
    (HR : Hid (∀ w, Calls Tryd.prog 45 #[.agg #[.int .i64 T, .int .i64 0], .int .i64 hz] w (ValEnd w (.tuple #[.float .f64 x, .int .i64 0]))))
    (hT1 : 1 ≤ T)
    (hT2 : T ≤ 4611686018427387903)
    (hT : 1 < T)
    (hx : FloatKind.f64.format.order x p = some .eq)
    (HY : Hid (∀ w, Calls Tryd.prog 45 #[.agg #[.int .i64 (T - 1), .int .i64 0], .int .i64 hz] w (ValEnd w (.tuple #[.float .f64 y, .int .i64 0]))))
    (hy : FloatKind.f64.format.order y p = some .gt)
    (hc : FloatKind.f64.format.order p 9110782046170513408 = some .eq) :
    Calls Tryd.prog 13 #[.int .u64 (p : Int), .int .i64 hz] w (ValEnd w (.bool true)) := by
  have EQ1 := eqlL 0 0
  have kst : ∀ (a : Addr) (x : Nat) (w : World), (store a (.float .f64 x)).run Tryd.prog w = stored Tryd.prog w a (.float .f64 x) .plain := fun a x w => run_store _ _ _ _ _ rfl
  go_enter Tryd.func13, Tryd.ntmps13
  go_wp2_with fail
  with_reducible refine (HA.out _ (Below.refl _ _)).mono ?_
  rintro e w1 ⟨rfl, hb⟩
  have HB1 := Lib.hid ((Below.refl w.heap.size w).trans (hb.mono (by simp <;> omega)))
  clear hb
  go_wp2_with fail
  with_reducible refine (HO.out _).mono ?_
  rintro e w2 ⟨rfl, hb⟩
  have HB2 := Lib.hid (HB1.out.trans (hb.mono (by have := HB1.out.size; simp <;> omega)))
  clear hb
  go_wp2_with fail
  with_reducible refine (HP.out _ (HB2.out.alloc HB2.out.size _)).mono ?_
  rintro e w3 ⟨rfl, hb⟩
  have Kr := (BlkL.new _ [.float .f64 p, .float .f64 0, .int .i64 hz] 54).below hb
  try simp only [World.size_alloc] at Kr
  have HB3 := Lib.hid ((HB2.out.alloc (by have := HB2.out.size; simp; omega) _).trans (hb.mono (by have := HB2.out.size; simp <;> omega)))
  clear hb
  have cr0 := Kr.cell 0 _ rfl
  have cr1 := Kr.cell 1 _ rfl
  have cr2 := Kr.cell 2 _ rfl
  have zr := Kr.lt
  have HKr3 := Lib.hid Kr
  clear Kr
  go_wp2_with fail
  with_reducible refine (HR.out _).mono ?_
  rintro e w4 ⟨rfl, hb⟩
  have Kr := (HKr3.out.alloc _).below hb
  have Kl := (BlkL.new _ [.int .i64 T, .int .i64 0] 57).below hb
  try simp only [World.size_alloc] at Kl
  have HB4 := Lib.hid ((HB3.out.alloc (by have := HB3.out.size; simp; omega) _).trans (hb.mono (by have := HB3.out.size; simp <;> omega)))
  clear hb cr0 cr1 cr2 zr
  have cr0 := Kr.cell 0 _ rfl
  have cr1 := Kr.cell 1 _ rfl
  have cr2 := Kr.cell 2 _ rfl
  have zr := Kr.lt
  have cl0 := Kl.cell 0 _ rfl
  have cl1 := Kl.cell 1 _ rfl
  have zl := Kl.lt
  have HKr4 := Lib.hid Kr
  have HKl4 := Lib.hid Kl
  clear Kr Kl
  go_wp2_with fail
  with_reducible refine (HY.out _).mono ?_
  rintro e w5 ⟨rfl, hb⟩
  have Kr := HKr4.out.below hb
  have Kl := HKl4.out.below hb
  have HB5 := Lib.hid (HB4.out.trans (hb.mono (by have := HB4.out.size; simp <;> omega)))
  clear hb cr0 cr1 cr2 zr cl0 cl1 zl
  have cr0 := Kr.cell 0 _ rfl
  have cr1 := Kr.cell 1 _ rfl
  have cr2 := Kr.cell 2 _ rfl
  have zr := Kr.lt
  have cl0 := Kl.cell 0 _ rfl
  have cl1 := Kl.cell 1 _ rfl
  have zl := Kl.lt
  have HKr5 := Lib.hid Kr
  have HKl5 := Lib.hid Kl
  clear Kr Kl
  go_wp2
  go_ret
  exact ⟨rfl, HB5.out⟩


set_option maxHeartbeats 1600000 in
theorem rateNever_c_eq_eq_eq (w : World) (p x y : Nat) (hz T : Int)
    (HA : Hid (∀ w', Below w.heap.size w w' → Calls Tryd.prog 43 #[] w' (ValEnd w' (.bool true))))
    (HO : Hid (∀ w, Calls Tryd.prog 40 #[.int .u64 (p : Int), .int .u64 0, .int .i64 hz] w (ValEnd w (RateV p 0 hz))))
    (HP : Hid (∀ w', Below w.heap.size w w' → Calls Tryd.prog 41 #[RateV p 0 hz] w' (ValEnd w' (.tuple #[.agg #[.int .i64 T, .int .i64 0], .int .i64 0]))))
    (HR : Hid (∀ w, Calls Tryd.prog 45 #[.agg #[.int .i64 T, .int .i64 0], .int .i64 hz] w (ValEnd w (.tuple #[.float .f64 x, .int .i64 0]))))
    (hT1 : 1 ≤ T)
    (hT2 : T ≤ 4611686018427387903)
    (hT : 1 < T)
    (hx : FloatKind.f64.format.order x p = some .eq)
    (HY : Hid (∀ w, Calls Tryd.prog 45 #[.agg #[.int .i64 (T - 1), .int .i64 0], .int .i64 hz] w (ValEnd w (.tuple #[.float .f64 y, .int .i64 0]))))
    (hy : FloatKind.f64.format.order y p = some .eq)
    (hc : FloatKind.f64.format.order p 9110782046170513408 = some .eq) :
    Calls Tryd.prog 13 #[.int .u64 (p : Int), .int .i64 hz] w (ValEnd w (.bool true)) := by
  have EQ1 := eqlL 0 0
  have kst : ∀ (a : Addr) (x : Nat) (w : World), (store a (.float .f64 x)).run Tryd.prog w = stored Tryd.prog w a (.float .f64 x) .plain := fun a x w => run_store _ _ _ _ _ rfl
  go_enter Tryd.func13, Tryd.ntmps13
  go_wp2_with fail
  with_reducible refine (HA.out _ (Below.refl _ _)).mono ?_
  rintro e w1 ⟨rfl, hb⟩
  have HB1 := Lib.hid ((Below.refl w.heap.size w).trans (hb.mono (by simp <;> omega)))
  clear hb
  go_wp2_with fail
  with_reducible refine (HO.out _).mono ?_
  rintro e w2 ⟨rfl, hb⟩
  have HB2 := Lib.hid (HB1.out.trans (hb.mono (by have := HB1.out.size; simp <;> omega)))
  clear hb
  go_wp2_with fail
  with_reducible refine (HP.out _ (HB2.out.alloc HB2.out.size _)).mono ?_
  rintro e w3 ⟨rfl, hb⟩
  have Kr := (BlkL.new _ [.float .f64 p, .float .f64 0, .int .i64 hz] 54).below hb
  try simp only [World.size_alloc] at Kr
  have HB3 := Lib.hid ((HB2.out.alloc (by have := HB2.out.size; simp; omega) _).trans (hb.mono (by have := HB2.out.size; simp <;> omega)))
  clear hb
  have cr0 := Kr.cell 0 _ rfl
  have cr1 := Kr.cell 1 _ rfl
  have cr2 := Kr.cell 2 _ rfl
  have zr := Kr.lt
  have HKr3 := Lib.hid Kr
  clear Kr
  go_wp2_with fail
  with_reducible refine (HR.out _).mono ?_
  rintro e w4 ⟨rfl, hb⟩
  have Kr := (HKr3.out.alloc _).below hb
  have Kl := (BlkL.new _ [.int .i64 T, .int .i64 0] 57).below hb
  try simp only [World.size_alloc] at Kl
  have HB4 := Lib.hid ((HB3.out.alloc (by have := HB3.out.size; simp; omega) _).trans (hb.mono (by have := HB3.out.size; simp <;> omega)))
  clear hb cr0 cr1 cr2 zr
  have cr0 := Kr.cell 0 _ rfl
  have cr1 := Kr.cell 1 _ rfl
  have cr2 := Kr.cell 2 _ rfl
  have zr := Kr.lt
  have cl0 := Kl.cell 0 _ rfl
  have cl1 := Kl.cell 1 _ rfl
  have zl := Kl.lt
  have HKr4 := Lib.hid Kr
  have HKl4 := Lib.hid Kl
  clear Kr Kl
  go_wp2_with fail
  with_reducible refine (HY.out _).mono ?_
  rintro e w5 ⟨rfl, hb⟩
  have Kr := HKr4.out.below hb
  have Kl := HKl4.out.below hb
  have HB5 := Lib.hid (HB4.out.trans (hb.mono (by have := HB4.out.size; simp <;> omega)))
  clear hb cr0 cr1 cr2 zr cl0 cl1 zl
  have cr0 := Kr.cell 0 _ rfl
  have cr1 := Kr.cell 1 _ rfl
  have cr2 := Kr.cell 2 _ rfl
  have zr := Kr.lt
  have cl0 := Kl.cell 0 _ rfl
  have cl1 := Kl.cell 1 _ rfl
  have zl := Kl.lt
  have HKr5 := Lib.hid Kr
  have HKl5 := Lib.hid Kl
  clear Kr Kl
  go_wp2
  go_ret
  exact ⟨rfl, HB5.out⟩


set_option maxHeartbeats 1600000 in
theorem rateNever_d_lt_gt (w : World) (p x y q : Nat) (hz T T2 : Int)
    (HA : Hid (∀ w', Below w.heap.size w w' → Calls Tryd.prog 43 #[] w' (ValEnd w' (.bool true))))
    (HO : Hid (∀ w, Calls Tryd.prog 40 #[.int .u64 (p : Int), .int .u64 0, .int .i64 hz] w (ValEnd w (RateV p 0 hz))))
    (HP : Hid (∀ w', Below w.heap.size w w' → Calls Tryd.prog 41 #[RateV p 0 hz] w' (ValEnd w' (.tuple #[.agg #[.int .i64 T, .int .i64 0], .int .i64 0]))))
    (HR : Hid (∀ w, Calls Tryd.prog 45 #[.agg #[.int .i64 T, .int .i64 0], .int .i64 hz] w (ValEnd w (.tuple #[.float .f64 x, .int .i64 0]))))
    (hT1 : 1 ≤ T)
    (hT2 : T ≤ 4611686018427387903)
    (hT : 1 < T)
    (hx : FloatKind.f64.format.order x p = some .lt)
    (HY : Hid (∀ w, Calls Tryd.prog 45 #[.agg #[.int .i64 (T - 1), .int .i64 0], .int .i64 hz] w (ValEnd w (.tuple #[.float .f64 y, .int .i64 0]))))
    (hy : FloatKind.f64.format.order y p = some .gt)
    (hc : FloatKind.f64.format.order p 9110782046170513408 = some .lt)
    (HM : Hid (∀ w, (binOp .mul 23 (.float .f64 4611686018427387904) (.float .f64 p)).run Tryd.prog w = .ok (.float .f64 q) w))
    (HQ : Hid (∀ w', Below w.heap.size w w' → Calls Tryd.prog 41 #[RateV q 0 hz] w' (ValEnd w' (.tuple #[.agg #[.int .i64 T2, .int .i64 0], .int .i64 0]))))
    (h2 : T2 ≤ T)
    (h3 : T / 2 ≤ T2)
    (h4 : 0 ≤ T2) :
    Calls Tryd.prog 13 #[.int .u64 (p : Int), .int .i64 hz] w (ValEnd w (.bool true)) := by
  have EQ1 := eqlL 0 0
  have kst : ∀ (a : Addr) (x : Nat) (w : World), (store a (.float .f64 x)).run Tryd.prog w = stored Tryd.prog w a (.float .f64 x) .plain := fun a x w => run_store _ _ _ _ _ rfl
  have HM2 := HM.out
  go_enter Tryd.func13, Tryd.ntmps13
  go_wp2_with fail
  with_reducible refine (HA.out _ (Below.refl _ _)).mono ?_
  rintro e w1 ⟨rfl, hb⟩
  have HB1 := Lib.hid ((Below.refl w.heap.size w).trans (hb.mono (by simp <;> omega)))
  clear hb
  go_wp2_with fail
  with_reducible refine (HO.out _).mono ?_
  rintro e w2 ⟨rfl, hb⟩
  have HB2 := Lib.hid (HB1.out.trans (hb.mono (by have := HB1.out.size; simp <;> omega)))
  clear hb
  go_wp2_with fail
  with_reducible refine (HP.out _ (HB2.out.alloc HB2.out.size _)).mono ?_
  rintro e w3 ⟨rfl, hb⟩
  have Kr := (BlkL.new _ [.float .f64 p, .float .f64 0, .int .i64 hz] 54).below hb
  try simp only [World.size_alloc] at Kr
  have HB3 := Lib.hid ((HB2.out.alloc (by have := HB2.out.size; simp; omega) _).trans (hb.mono (by have := HB2.out.size; simp <;> omega)))
  clear hb
  have cr0 := Kr.cell 0 _ rfl
  have cr1 := Kr.cell 1 _ rfl
  have cr2 := Kr.cell 2 _ rfl
  have zr := Kr.lt
  have HKr3 := Lib.hid Kr
  clear Kr
  go_wp2_with fail
  with_reducible refine (HR.out _).mono ?_
  rintro e w4 ⟨rfl, hb⟩
  have Kr := (HKr3.out.alloc _).below hb
  have Kl := (BlkL.new _ [.int .i64 T, .int .i64 0] 57).below hb
  try simp only [World.size_alloc] at Kl
  have HB4 := Lib.hid ((HB3.out.alloc (by have := HB3.out.size; simp; omega) _).trans (hb.mono (by have := HB3.out.size; simp <;> omega)))
  clear hb cr0 cr1 cr2 zr
  have cr0 := Kr.cell 0 _ rfl
  have cr1 := Kr.cell 1 _ rfl
  have cr2 := Kr.cell 2 _ rfl
  have zr := Kr.lt
  have cl0 := Kl.cell 0 _ rfl
  have cl1 := Kl.cell 1 _ rfl
  have zl := Kl.lt
  have HKr4 := Lib.hid Kr
  have HKl4 := Lib.hid Kl
  clear Kr Kl
  go_wp2_with fail
  with_reducible refine (HY.out _).mono ?_
  rintro e w5 ⟨rfl, hb⟩
  have Kr := HKr4.out.below hb
  have Kl := HKl4.out.below hb
  have HB5 := Lib.hid (HB4.out.trans (hb.mono (by have := HB4.out.size; simp <;> omega)))
  clear hb cr0 cr1 cr2 zr cl0 cl1 zl
  have cr0 := Kr.cell 0 _ rfl
  have cr1 := Kr.cell 1 _ rfl
  have cr2 := Kr.cell 2 _ rfl
  have zr := Kr.lt
  have cl0 := Kl.cell 0 _ rfl
  have cl1 := Kl.cell 1 _ rfl
  have zl := Kl.lt
  have HKr5 := Lib.hid Kr
  have HKl5 := Lib.hid Kl
  clear Kr Kl
  go_wp2_with fail
  with_reducible refine (HQ.out _ HB5.out).mono ?_
  rintro e w6 ⟨rfl, hb⟩
  have Kr := HKr5.out.below hb
  have Kl := HKl5.out.below hb
  have HB6 := Lib.hid (HB5.out.trans (hb.mono (by have := HB5.out.size; simp <;> omega)))
  clear hb cr0 cr1 cr2 zr cl0 cl1 zl
  have cl0 := Kl.cell 0 _ rfl
  have cl1 := Kl.cell 1 _ rfl
  have zl := Kl.lt
  have HKr6 := Lib.hid Kr
  have HKl6 := Lib.hid Kl
  clear Kr Kl
  go_wp2
  go_ret
  exact ⟨rfl, (HB6.out.alloc (by have := HB6.out.size; simp; omega) _)⟩


set_option maxHeartbeats 1600000 in
theorem rateNever_d_lt_eq (w : World) (p x y q : Nat) (hz T T2 : Int)
    (HA : Hid (∀ w', Below w.heap.size w w' → Calls Tryd.prog 43 #[] w' (ValEnd w' (.bool true))))
    (HO : Hid (∀ w, Calls Tryd.prog 40 #[.int .u64 (p : Int), .int .u64 0, .int .i64 hz] w (ValEnd w (RateV p 0 hz))))
    (HP : Hid (∀ w', Below w.heap.size w w' → Calls Tryd.prog 41 #[RateV p 0 hz] w' (ValEnd w' (.tuple #[.agg #[.int .i64 T, .int .i64 0], .int .i64 0]))))
    (HR : Hid (∀ w, Calls Tryd.prog 45 #[.agg #[.int .i64 T, .int .i64 0], .int .i64 hz] w (ValEnd w (.tuple #[.float .f64 x, .int .i64 0]))))
    (hT1 : 1 ≤ T)
    (hT2 : T ≤ 4611686018427387903)
    (hT : 1 < T)
    (hx : FloatKind.f64.format.order x p = some .lt)
    (HY : Hid (∀ w, Calls Tryd.prog 45 #[.agg #[.int .i64 (T - 1), .int .i64 0], .int .i64 hz] w (ValEnd w (.tuple #[.float .f64 y, .int .i64 0]))))
    (hy : FloatKind.f64.format.order y p = some .eq)
    (hc : FloatKind.f64.format.order p 9110782046170513408 = some .lt)
    (HM : Hid (∀ w, (binOp .mul 23 (.float .f64 4611686018427387904) (.float .f64 p)).run Tryd.prog w = .ok (.float .f64 q) w))
    (HQ : Hid (∀ w', Below w.heap.size w w' → Calls Tryd.prog 41 #[RateV q 0 hz] w' (ValEnd w' (.tuple #[.agg #[.int .i64 T2, .int .i64 0], .int .i64 0]))))
    (h2 : T2 ≤ T)
    (h3 : T / 2 ≤ T2)
    (h4 : 0 ≤ T2) :
    Calls Tryd.prog 13 #[.int .u64 (p : Int), .int .i64 hz] w (ValEnd w (.bool true)) := by
  have EQ1 := eqlL 0 0
  have kst : ∀ (a : Addr) (x : Nat) (w : World), (store a (.float .f64 x)).run Tryd.prog w = stored Tryd.prog w a (.float .f64 x) .plain := fun a x w => run_store _ _ _ _ _ rfl
  have HM2 := HM.out
  go_enter Tryd.func13, Tryd.ntmps13
  go_wp2_with fail
  with_reducible refine (HA.out _ (Below.refl _ _)).mono ?_
  rintro e w1 ⟨rfl, hb⟩
  have HB1 := Lib.hid ((Below.refl w.heap.size w).trans (hb.mono (by simp <;> omega)))
  clear hb
  go_wp2_with fail
  with_reducible refine (HO.out _).mono ?_
  rintro e w2 ⟨rfl, hb⟩
  have HB2 := Lib.hid (HB1.out.trans (hb.mono (by have := HB1.out.size; simp <;> omega)))
  clear hb
  go_wp2_with fail
  with_reducible refine (HP.out _ (HB2.out.alloc HB2.out.size _)).mono ?_
  rintro e w3 ⟨rfl, hb⟩
  have Kr := (BlkL.new _ [.float .f64 p, .float .f64 0, .int .i64 hz] 54).below hb
  try simp only [World.size_alloc] at Kr
  have HB3 := Lib.hid ((HB2.out.alloc (by have := HB2.out.size; simp; omega) _).trans (hb.mono (by have := HB2.out.size; simp <;> omega)))
  clear hb
  have cr0 := Kr.cell 0 _ rfl
  have cr1 := Kr.cell 1 _ rfl
  have cr2 := Kr.cell 2 _ rfl
  have zr := Kr.lt
  have HKr3 := Lib.hid Kr
  clear Kr
  go_wp2_with fail
  with_reducible refine (HR.out _).mono ?_
  rintro e w4 ⟨rfl, hb⟩
  have Kr := (HKr3.out.alloc _).below hb
  have Kl := (BlkL.new _ [.int .i64 T, .int .i64 0] 57).below hb
  try simp only [World.size_alloc] at Kl
  have HB4 := Lib.hid ((HB3.out.alloc (by have := HB3.out.size; simp; omega) _).trans (hb.mono (by have := HB3.out.size; simp <;> omega)))
  clear hb cr0 cr1 cr2 zr
  have cr0 := Kr.cell 0 _ rfl
  have cr1 := Kr.cell 1 _ rfl
  have cr2 := Kr.cell 2 _ rfl
  have zr := Kr.lt
  have cl0 := Kl.cell 0 _ rfl
  have cl1 := Kl.cell 1 _ rfl
  have zl := Kl.lt
  have HKr4 := Lib.hid Kr
  have HKl4 := Lib.hid Kl
  clear Kr Kl
  go_wp2_with fail
  with_reducible refine (HY.out _).mono ?_
  rintro e w5 ⟨rfl, hb⟩
  have Kr := HKr4.out.below hb
  have Kl := HKl4.out.below hb
  have HB5 := Lib.hid (HB4.out.trans (hb.mono (by have := HB4.out.size; simp <;> omega)))
  clear hb cr0 cr1 cr2 zr cl0 cl1 zl
  have cr0 := Kr.cell 0 _ rfl
  have cr1 := Kr.cell 1 _ rfl
  have cr2 := Kr.cell 2 _ rfl
  have zr := Kr.lt
  have cl0 := Kl.cell 0 _ rfl
  have cl1 := Kl.cell 1 _ rfl
  have zl := Kl.lt
  have HKr5 := Lib.hid Kr
  have HKl5 := Lib.hid Kl
  clear Kr Kl
  go_wp2_with fail
  with_reducible refine (HQ.out _ HB5.out).mono ?_
  rintro e w6 ⟨rfl, hb⟩
  have Kr := HKr5.out.below hb
  have Kl := HKl5.out.below hb
  have HB6 := Lib.hid (HB5.out.trans (hb.mono (by have := HB5.out.size; simp <;> omega)))
  clear hb cr0 cr1 cr2 zr cl0 cl1 zl
  have cl0 := Kl.cell 0 _ rfl
  have cl1 := Kl.cell 1 _ rfl
  have zl := Kl.lt
  have HKr6 := Lib.hid Kr
  have HKl6 := Lib.hid Kl
  clear Kr Kl
  go_wp2
  go_ret
  exact ⟨rfl, (HB6.out.alloc (by have := HB6.out.size; simp; omega) _)⟩


set_option maxHeartbeats 1600000 in
theorem rateNever_d_eq_gt (w : World) (p x y q : Nat) (hz T T2 : Int)
    (HA : Hid (∀ w', Below w.heap.size w w' → Calls Tryd.prog 43 #[] w' (ValEnd w' (.bool true))))
    (HO : Hid (∀ w, Calls Tryd.prog 40 #[.int .u64 (p : Int), .int .u64 0, .int .i64 hz] w (ValEnd w (RateV p 0 hz))))
    (HP : Hid (∀ w', Below w.heap.size w w' → Calls Tryd.prog 41 #[RateV p 0 hz] w' (ValEnd w' (.tuple #[.agg #[.int .i64 T, .int .i64 0], .int .i64 0]))))
    (HR : Hid (∀ w, Calls Tryd.prog 45 #[.agg #[.int .i64 T, .int .i64 0], .int .i64 hz] w (ValEnd w (.tuple #[.float .f64 x, .int .i64 0]))))
    (hT1 : 1 ≤ T)
    (hT2 : T ≤ 4611686018427387903)
    (hT : 1 < T)
    (hx : FloatKind.f64.format.order x p = some .eq)
    (HY : Hid (∀ w, Calls Tryd.prog 45 #[.agg #[.int .i64 (T - 1), .int .i64 0], .int .i64 hz] w (ValEnd w (.tuple #[.float .f64 y, .int .i64 0]))))
    (hy : FloatKind.f64.format.order y p = some .gt)
    (hc : FloatKind.f64.format.order p 9110782046170513408 = some .lt)
    (HM : Hid (∀ w, (binOp .mul 23 (.float .f64 4611686018427387904) (.float .f64 p)).run Tryd.prog w = .ok (.float .f64 q) w))
    (HQ : Hid (∀ w', Below w.heap.size w w' → Calls Tryd.prog 41 #[RateV q 0 hz] w' (ValEnd w' (.tuple #[.agg #[.int .i64 T2, .int .i64 0], .int .i64 0]))))
    (h2 : T2 ≤ T)
    (h3 : T / 2 ≤ T2)
    (h4 : 0 ≤ T2) :
    Calls Tryd.prog 13 #[.int .u64 (p : Int), .int .i64 hz] w (ValEnd w (.bool true)) := by
  have EQ1 := eqlL 0 0
  have kst : ∀ (a : Addr) (x : Nat) (w : World), (store a (.float .f64 x)).run Tryd.prog w = stored Tryd.prog w a (.float .f64 x) .plain := fun a x w => run_store _ _ _ _ _ rfl
  have HM2 := HM.out
  go_enter Tryd.func13, Tryd.ntmps13
  go_wp2_with fail
  with_reducible refine (HA.out _ (Below.refl _ _)).mono ?_
  rintro e w1 ⟨rfl, hb⟩
  have HB1 := Lib.hid ((Below.refl w.heap.size w).trans (hb.mono (by simp <;> omega)))
  clear hb
  go_wp2_with fail
  with_reducible refine (HO.out _).mono ?_
  rintro e w2 ⟨rfl, hb⟩
  have HB2 := Lib.hid (HB1.out.trans (hb.mono (by have := HB1.out.size; simp <;> omega)))
  clear hb
  go_wp2_with fail
  with_reducible refine (HP.out _ (HB2.out.alloc HB2.out.size _)).mono ?_
  rintro e w3 ⟨rfl, hb⟩
  have Kr := (BlkL.new _ [.float .f64 p, .float .f64 0, .int .i64 hz] 54).below hb
  try simp only [World.size_alloc] at Kr
  have HB3 := Lib.hid ((HB2.out.alloc (by have := HB2.out.size; simp; omega) _).trans (hb.mono (by have := HB2.out.size; simp <;> omega)))
  clear hb
  have cr0 := Kr.cell 0 _ rfl
  have cr1 := Kr.cell 1 _ rfl
  have cr2 := Kr.cell 2 _ rfl
  have zr := Kr.lt
  have HKr3 := Lib.hid Kr
  clear Kr
  go_wp2_with fail
  with_reducible refine (HR.out _).mono ?_
  rintro e w4 ⟨rfl, hb⟩
  have Kr := (HKr3.out.alloc _).below hb
  have Kl := (BlkL.new _ [.int .i64 T, .int .i64 0] 57).below hb
  try simp only [World.size_alloc] at Kl
  have HB4 := Lib.hid ((HB3.out.alloc (by have := HB3.out.size; simp; omega) _).trans (hb.mono (by have := HB3.out.size; simp <;> omega)))
  clear hb cr0 cr1 cr2 zr
  have cr0 := Kr.cell 0 _ rfl
  have cr1 := Kr.cell 1 _ rfl
  have cr2 := Kr.cell 2 _ rfl
  have zr := Kr.lt
  have cl0 := Kl.cell 0 _ rfl
  have cl1 := Kl.cell 1 _ rfl
  have zl := Kl.lt
  have HKr4 := Lib.hid Kr
  have HKl4 := Lib.hid Kl
  clear Kr Kl
  go_wp2_with fail
  with_reducible refine (HY.out _).mono ?_
  rintro e w5 ⟨rfl, hb⟩
  have Kr := HKr4.out.below hb
  have Kl := HKl4.out.below hb
  have HB5 := Lib.hid (HB4.out.trans (hb.mono (by have := HB4.out.size; simp <;> omega)))
  clear hb cr0 cr1 cr2 zr cl0 cl1 zl
  have cr0 := Kr.cell 0 _ rfl
  have cr1 := Kr.cell 1 _ rfl
  have cr2 := Kr.cell 2 _ rfl
  have zr := Kr.lt
  have cl0 := Kl.cell 0 _ rfl
  have cl1 := Kl.cell 1 _ rfl
  have zl := Kl.lt
  have HKr5 := Lib.hid Kr
  have HKl5 := Lib.hid Kl
  clear Kr Kl
  go_wp2_with fail
  with_reducible refine (HQ.out _ HB5.out).mono ?_
  rintro e w6 ⟨rfl, hb⟩
  have Kr := HKr5.out.below hb
  have Kl := HKl5.out.below hb
  have HB6 := Lib.hid (HB5.out.trans (hb.mono (by have := HB5.out.size; simp <;> omega)))
  clear hb cr0 cr1 cr2 zr cl0 cl1 zl
  have cl0 := Kl.cell 0 _ rfl
  have cl1 := Kl.cell 1 _ rfl
  have zl := Kl.lt
  have HKr6 := Lib.hid Kr
  have HKl6 := Lib.hid Kl
  clear Kr Kl
  go_wp2
  go_ret
  exact ⟨rfl, (HB6.out.alloc (by have := HB6.out.size; simp; omega) _)⟩


set_option maxHeartbeats 1600000 in
theorem rateNever_d_eq_eq (w : World) (p x y q : Nat) (hz T T2 : Int)
    (HA : Hid (∀ w', Below w.heap.size w w' → Calls Tryd.prog 43 #[] w' (ValEnd w' (.bool true))))
    (HO : Hid (∀ w, Calls Tryd.prog 40 #[.int .u64 (p : Int), .int .u64 0, .int .i64 hz] w (ValEnd w (RateV p 0 hz))))
    (HP : Hid (∀ w', Below w.heap.size w w' → Calls Tryd.prog 41 #[RateV p 0 hz] w' (ValEnd w' (.tuple #[.agg #[.int .i64 T, .int .i64 0], .int .i64 0]))))
    (HR : Hid (∀ w, Calls Tryd.prog 45 #[.agg #[.int .i64 T, .int .i64 0], .int .i64 hz] w (ValEnd w (.tuple #[.float .f64 x, .int .i64 0]))))
    (hT1 : 1 ≤ T)
    (hT2 : T ≤ 4611686018427387903)
    (hT : 1 < T)
    (hx : FloatKind.f64.format.order x p = some .eq)
    (HY : Hid (∀ w, Calls Tryd.prog 45 #[.agg #[.int .i64 (T - 1), .int .i64 0], .int .i64 hz] w (ValEnd w (.tuple #[.float .f64 y, .int .i64 0]))))
    (hy : FloatKind.f64.format.order y p = some .eq)
    (hc : FloatKind.f64.format.order p 9110782046170513408 = some .lt)
    (HM : Hid (∀ w, (binOp .mul 23 (.float .f64 4611686018427387904) (.float .f64 p)).run Tryd.prog w = .ok (.float .f64 q) w))
    (HQ : Hid (∀ w', Below w.heap.size w w' → Calls Tryd.prog 41 #[RateV q 0 hz] w' (ValEnd w' (.tuple #[.agg #[.int .i64 T2, .int .i64 0], .int .i64 0]))))
    (h2 : T2 ≤ T)
    (h3 : T / 2 ≤ T2)
    (h4 : 0 ≤ T2) :
    Calls Tryd.prog 13 #[.int .u64 (p : Int), .int .i64 hz] w (ValEnd w (.bool true)) := by
  have EQ1 := eqlL 0 0
  have kst : ∀ (a : Addr) (x : Nat) (w : World), (store a (.float .f64 x)).run Tryd.prog w = stored Tryd.prog w a (.float .f64 x) .plain := fun a x w => run_store _ _ _ _ _ rfl
  have HM2 := HM.out
  go_enter Tryd.func13, Tryd.ntmps13
  go_wp2_with fail
  with_reducible refine (HA.out _ (Below.refl _ _)).mono ?_
  rintro e w1 ⟨rfl, hb⟩
  have HB1 := Lib.hid ((Below.refl w.heap.size w).trans (hb.mono (by simp <;> omega)))
  clear hb
  go_wp2_with fail
  with_reducible refine (HO.out _).mono ?_
  rintro e w2 ⟨rfl, hb⟩
  have HB2 := Lib.hid (HB1.out.trans (hb.mono (by have := HB1.out.size; simp <;> omega)))
  clear hb
  go_wp2_with fail
  with_reducible refine (HP.out _ (HB2.out.alloc HB2.out.size _)).mono ?_
  rintro e w3 ⟨rfl, hb⟩
  have Kr := (BlkL.new _ [.float .f64 p, .float .f64 0, .int .i64 hz] 54).below hb
  try simp only [World.size_alloc] at Kr
  have HB3 := Lib.hid ((HB2.out.alloc (by have := HB2.out.size; simp; omega) _).trans (hb.mono (by have := HB2.out.size; simp <;> omega)))
  clear hb
  have cr0 := Kr.cell 0 _ rfl
  have cr1 := Kr.cell 1 _ rfl
  have cr2 := Kr.cell 2 _ rfl
  have zr := Kr.lt
  have HKr3 := Lib.hid Kr
  clear Kr
  go_wp2_with fail
  with_reducible refine (HR.out _).mono ?_
  rintro e w4 ⟨rfl, hb⟩
  have Kr := (HKr3.out.alloc _).below hb
  have Kl := (BlkL.new _ [.int .i64 T, .int .i64 0] 57).below hb
  try simp only [World.size_alloc] at Kl
  have HB4 := Lib.hid ((HB3.out.alloc (by have := HB3.out.size; simp; omega) _).trans (hb.mono (by have := HB3.out.size; simp <;> omega)))
  clear hb cr0 cr1 cr2 zr
  have cr0 := Kr.cell 0 _ rfl
  have cr1 := Kr.cell 1 _ rfl
  have cr2 := Kr.cell 2 _ rfl
  have zr := Kr.lt
  have cl0 := Kl.cell 0 _ rfl
  have cl1 := Kl.cell 1 _ rfl
  have zl := Kl.lt
  have HKr4 := Lib.hid Kr
  have HKl4 := Lib.hid Kl
  clear Kr Kl
  go_wp2_with fail
  with_reducible refine (HY.out _).mono ?_
  rintro e w5 ⟨rfl, hb⟩
  have Kr := HKr4.out.below hb
  have Kl := HKl4.out.below hb
  have HB5 := Lib.hid (HB4.out.trans (hb.mono (by have := HB4.out.size; simp <;> omega)))
  clear hb cr0 cr1 cr2 zr cl0 cl1 zl
  have cr0 := Kr.cell 0 _ rfl
  have cr1 := Kr.cell 1 _ rfl
  have cr2 := Kr.cell 2 _ rfl
  have zr := Kr.lt
  have cl0 := Kl.cell 0 _ rfl
  have cl1 := Kl.cell 1 _ rfl
  have zl := Kl.lt
  have HKr5 := Lib.hid Kr
  have HKl5 := Lib.hid Kl
  clear Kr Kl
  go_wp2_with fail
  with_reducible refine (HQ.out _ HB5.out).mono ?_
  rintro e w6 ⟨rfl, hb⟩
  have Kr := HKr5.out.below hb
  have Kl := HKl5.out.below hb
  have HB6 := Lib.hid (HB5.out.trans (hb.mono (by have := HB5.out.size; simp <;> omega)))
  clear hb cr0 cr1 cr2 zr cl0 cl1 zl
  have cl0 := Kl.cell 0 _ rfl
  have cl1 := Kl.cell 1 _ rfl
  have zl := Kl.lt
  have HKr6 := Lib.hid Kr
  have HKl6 := Lib.hid Kl
  clear Kr Kl
  go_wp2
  go_ret
  exact ⟨rfl, (HB6.out.alloc (by have := HB6.out.size; simp; omega) _)⟩


end Go.Proofs.YtafboimlchjnaaaDoor
