/- The law RateBursts: its walk. -/
import Derived.Test.YtafboimlchjnaaaDoorOfs4
import Derived.Test.YtafboimlchjnaaaDoorBurstM
import Derived.Test.YtafboimlchjnaaaDoorNever
import Derived.Test.YtafboimlchjnaaaDoorBlk
import Derived.Outline
namespace Go.Proofs.YtafboimlchjnaaaDoor
open Go.RowKit
set_option maxRecDepth 100000
set_option linter.unusedVariables false

theorem copysign_any (w : World) : Calls Tryd.prog 51 #[.float .f64 0, .float .f64 13830554455654793216] w (ValEnd w (.float .f64 9223372036854775808)) := by
  go_enter Tryd.func51, Tryd.ntmps51
  go_wp2
  rw [run_callFunc_extern Tryd.func57 (by kernel_rfl) (by kernel_rfl) (by kernel_rfl) (e := Extern.MathFloatBits.float64bits) (by kernel_rfl), run_f64bits]
  simp only [Result.andThen]
  rw [Oper.upon_value]
  go_wp2
  rw [run_callFunc_extern Tryd.func57 (by kernel_rfl) (by kernel_rfl) (by kernel_rfl) (e := Extern.MathFloatBits.float64bits) (by kernel_rfl), run_f64bits]
  simp only [Result.andThen]
  rw [Oper.upon_value]
  go_wp2
  rw [show Go.bits BinOp.or IntKind.u64 (Go.bits BinOp.andNot IntKind.u64 0 9223372036854775808) (Go.bits BinOp.and IntKind.u64 13830554455654793216 9223372036854775808) = ((9223372036854775808 : Nat) : Int) from by decide +kernel]
  rw [run_callFunc_extern Tryd.func52 (by kernel_rfl) (by kernel_rfl) (by kernel_rfl) (e := Extern.MathFloatBits.float64frombits) (by kernel_rfl), run_f64from]
  simp only [Result.andThen]
  rw [Oper.upon_value]
  go_wp2
  go_ret
  exact ⟨rfl, Below.refl _ _⟩

set_option maxHeartbeats 1600000 in
theorem rateBursts_e (w : World) (p : Nat) (hz er n : Int)
    (HA : Hid (∀ w', Below w.heap.size w w' → Calls Tryd.prog 43 #[] w' (ValEnd w' (.bool true))))
    (HO : Hid (∀ w, Calls Tryd.prog 40 #[.int .u64 (p : Int), .int .u64 0, .int .i64 hz] w (ValEnd w (RateV p 0 hz))))
    (HC : Hid (∀ w, Calls Tryd.prog 51 #[.float .f64 0, .float .f64 13830554455654793216] w (ValEnd w (.float .f64 9223372036854775808))))
    (HP : Hid (∀ w', Below w.heap.size w w' → Calls Tryd.prog 41 #[RateV p 0 hz] w' (ValEnd w' (.tuple #[.agg #[.int .i64 0, .int .i64 0], .int .i64 er]))))
    (HN : Hid (∀ w', Below w.heap.size w w' → Calls Tryd.prog 41 #[RateV p 9223372036854775808 hz] w' (ValEnd w' (.tuple #[.agg #[.int .i64 0, .int .i64 0], .int .i64 er]))))
    (hne : (er != 0) = true) :
    Calls Tryd.prog 14 #[.int .u64 (p : Int), .int .i64 hz, .int .u16 n] w (ValEnd w (.bool true)) := by
  have kst : ∀ (a : Addr) (x : Nat) (w : World), (store a (.float .f64 x)).run Tryd.prog w = stored Tryd.prog w a (.float .f64 x) .plain := fun a x w => run_store _ _ _ _ _ rfl
  have NE := neqL 0 0
  go_enter Tryd.func14, Tryd.ntmps14
  go_wp2_with fail
  with_reducible refine (HA.out _ ((Below.refl w.heap.size w))).mono ?_
  rintro e w1 ⟨rfl, hb⟩
  have HB1 := Lib.hid ((Below.refl w.heap.size w).trans (hb.mono (by simp <;> omega)))
  clear hb
  have hs1 := HB1.out.size
  go_wp2_with fail
  with_reducible refine (HO.out _).mono ?_
  rintro e w2 ⟨rfl, hb⟩
  have HB2 := Lib.hid (HB1.out.trans (hb.mono (by have := HB1.out.size; simp <;> omega)))
  clear hb
  have hs2 := HB2.out.size
  go_wp2_with fail
  with_reducible refine (HP.out _ ((HB2.out.alloc (by have := HB2.out.size; simp; omega) _))).mono ?_
  rintro e w3 ⟨rfl, hb⟩
  have Kr := (BlkL.new _ [.float .f64 p, .float .f64 0, .int .i64 hz] 54).below hb
  try simp only [World.size_alloc] at Kr
  have HB3 := Lib.hid ((HB2.out.alloc (by have := HB2.out.size; simp; omega) _).trans (hb.mono (by have := HB2.out.size; simp <;> omega)))
  clear hb
  have cr0 := Kr.cell 0 _ rfl
  have fr0 := Kr.froz 0 (by simp)
  have cr1 := Kr.cell 1 _ rfl
  have fr1 := Kr.froz 1 (by simp)
  have cr2 := Kr.cell 2 _ rfl
  have fr2 := Kr.froz 2 (by simp)
  have zr := Kr.lt
  have HKr3 := Lib.hid Kr
  clear Kr
  have hs3 := HB3.out.size
  have yr3 := zr
  go_wp2_with fail
  with_reducible refine (HC.out _).mono ?_
  rintro e w4 ⟨rfl, hb⟩
  have Kr := (HKr3.out.alloc _).below hb
  have Ka := (BlkL.new _ [.int .i64 0, .int .i64 0] 57).below hb
  try simp only [World.size_alloc] at Ka
  have HB4 := Lib.hid ((HB3.out.alloc (by have := HB3.out.size; simp; omega) _).trans (hb.mono (by have := HB3.out.size; simp <;> omega)))
  clear hb cr0 fr0 cr1 fr1 cr2 fr2 zr
  have cr0 := Kr.cell 0 _ rfl
  have fr0 := Kr.froz 0 (by simp)
  have cr1 := Kr.cell 1 _ rfl
  have fr1 := Kr.froz 1 (by simp)
  have cr2 := Kr.cell 2 _ rfl
  have fr2 := Kr.froz 2 (by simp)
  have zr := Kr.lt
  have ca0 := Ka.cell 0 _ rfl
  have ca1 := Ka.cell 1 _ rfl
  have za := Ka.lt
  have HKr4 := Lib.hid Kr
  have HKa4 := Lib.hid Ka
  clear Kr Ka
  have hs4 := HB4.out.size
  have yr4 := zr
  go_wp2_with fail
  with_reducible refine (HN.out _ ((HB4.out.setCell (p := ⟨w2.heap.size, 1, none⟩) (by show w.heap.size ≤ w2.heap.size; omega) (.float .f64 9223372036854775808)))).mono ?_
  rintro e w5 ⟨rfl, hb⟩
  have Kr := (HKr4.out.set 1 (.float .f64 9223372036854775808) (by simp)).below hb
  have Ka := (HKa4.out.other _ 1 (.float .f64 9223372036854775808) (by omega)).below hb
  simp only [List.set_cons_zero, List.set_cons_succ] at Kr
  have HB5 := Lib.hid ((HB4.out.setCell (p := ⟨w2.heap.size, 1, none⟩) (by show w.heap.size ≤ w2.heap.size; omega) (.float .f64 9223372036854775808)).trans (hb.mono (by have := HB4.out.size; simp <;> omega)))
  clear hb cr0 fr0 cr1 fr1 cr2 fr2 zr ca0 ca1 za
  have cr0 := Kr.cell 0 _ rfl
  have fr0 := Kr.froz 0 (by simp)
  have cr1 := Kr.cell 1 _ rfl
  have fr1 := Kr.froz 1 (by simp)
  have cr2 := Kr.cell 2 _ rfl
  have fr2 := Kr.froz 2 (by simp)
  have zr := Kr.lt
  have ca0 := Ka.cell 0 _ rfl
  have ca1 := Ka.cell 1 _ rfl
  have za := Ka.lt
  have HKr5 := Lib.hid Kr
  have HKa5 := Lib.hid Ka
  clear Kr Ka
  have hs5 := HB5.out.size
  have yr5 := zr
  go_wp2
  go_ret
  exact ⟨rfl, (HB5.out.alloc (by have := HB5.out.size; simp; omega) _)⟩


set_option maxHeartbeats 1600000 in
theorem rateBursts_g (w : World) (p fn : Nat) (hz T n : Int)
    (HA : Hid (∀ w', Below w.heap.size w w' → Calls Tryd.prog 43 #[] w' (ValEnd w' (.bool true))))
    (HO : Hid (∀ w, Calls Tryd.prog 40 #[.int .u64 (p : Int), .int .u64 0, .int .i64 hz] w (ValEnd w (RateV p 0 hz))))
    (HC : Hid (∀ w, Calls Tryd.prog 51 #[.float .f64 0, .float .f64 13830554455654793216] w (ValEnd w (.float .f64 9223372036854775808))))
    (HP : Hid (∀ w', Below w.heap.size w w' → Calls Tryd.prog 41 #[RateV p 0 hz] w' (ValEnd w' (.tuple #[.agg #[.int .i64 T, .int .i64 0], .int .i64 0]))))
    (HN : Hid (∀ w', Below w.heap.size w w' → Calls Tryd.prog 41 #[RateV p 9223372036854775808 hz] w' (ValEnd w' (.tuple #[.agg #[.int .i64 T, .int .i64 0], .int .i64 0]))))
    (hn0 : 0 ≤ n)
    (hn1 : n ≤ 65535)
    (hT1 : 1 ≤ T)
    (hT2 : T ≤ 4611686018427387903)
    (HF : floatOfInt FloatKind.f64 n = fn)
    (HL : Hid (∀ w', Below w.heap.size w w' → Calls Tryd.prog 41 #[RateV p fn hz] w' (ValEnd w' (.tuple #[.agg #[.int .i64 0, .int .i64 0], .int .i64 5]))))
    (hn : 0 < n)
    (hd : 4611686018427387903 / n < T) :
    Calls Tryd.prog 14 #[.int .u64 (p : Int), .int .i64 hz, .int .u16 n] w (ValEnd w (.bool true)) := by
  have kst : ∀ (a : Addr) (x : Nat) (w : World), (store a (.float .f64 x)).run Tryd.prog w = stored Tryd.prog w a (.float .f64 x) .plain := fun a x w => run_store _ _ _ _ _ rfl
  have NE := neqL T 0
  go_enter Tryd.func14, Tryd.ntmps14
  go_wp2_with fail
  with_reducible refine (HA.out _ ((Below.refl w.heap.size w))).mono ?_
  rintro e w1 ⟨rfl, hb⟩
  have HB1 := Lib.hid ((Below.refl w.heap.size w).trans (hb.mono (by simp <;> omega)))
  clear hb
  have hs1 := HB1.out.size
  go_wp2_with fail
  with_reducible refine (HO.out _).mono ?_
  rintro e w2 ⟨rfl, hb⟩
  have HB2 := Lib.hid (HB1.out.trans (hb.mono (by have := HB1.out.size; simp <;> omega)))
  clear hb
  have hs2 := HB2.out.size
  go_wp2_with fail
  with_reducible refine (HP.out _ ((HB2.out.alloc (by have := HB2.out.size; simp; omega) _))).mono ?_
  rintro e w3 ⟨rfl, hb⟩
  have Kr := (BlkL.new _ [.float .f64 p, .float .f64 0, .int .i64 hz] 54).below hb
  try simp only [World.size_alloc] at Kr
  have HB3 := Lib.hid ((HB2.out.alloc (by have := HB2.out.size; simp; omega) _).trans (hb.mono (by have := HB2.out.size; simp <;> omega)))
  clear hb
  have cr0 := Kr.cell 0 _ rfl
  have fr0 := Kr.froz 0 (by simp)
  have cr1 := Kr.cell 1 _ rfl
  have fr1 := Kr.froz 1 (by simp)
  have cr2 := Kr.cell 2 _ rfl
  have fr2 := Kr.froz 2 (by simp)
  have zr := Kr.lt
  have HKr3 := Lib.hid Kr
  clear Kr
  have hs3 := HB3.out.size
  have yr3 := zr
  go_wp2_with fail
  with_reducible refine (HC.out _).mono ?_
  rintro e w4 ⟨rfl, hb⟩
  have Kr := (HKr3.out.alloc _).below hb
  have Ka := (BlkL.new _ [.int .i64 T, .int .i64 0] 57).below hb
  try simp only [World.size_alloc] at Ka
  have HB4 := Lib.hid ((HB3.out.alloc (by have := HB3.out.size; simp; omega) _).trans (hb.mono (by have := HB3.out.size; simp <;> omega)))
  clear hb cr0 fr0 cr1 fr1 cr2 fr2 zr
  have cr0 := Kr.cell 0 _ rfl
  have fr0 := Kr.froz 0 (by simp)
  have cr1 := Kr.cell 1 _ rfl
  have fr1 := Kr.froz 1 (by simp)
  have cr2 := Kr.cell 2 _ rfl
  have fr2 := Kr.froz 2 (by simp)
  have zr := Kr.lt
  have ca0 := Ka.cell 0 _ rfl
  have ca1 := Ka.cell 1 _ rfl
  have za := Ka.lt
  have HKr4 := Lib.hid Kr
  have HKa4 := Lib.hid Ka
  clear Kr Ka
  have hs4 := HB4.out.size
  have yr4 := zr
  go_wp2_with fail
  with_reducible refine (HN.out _ ((HB4.out.setCell (p := ⟨w2.heap.size, 1, none⟩) (by show w.heap.size ≤ w2.heap.size; omega) (.float .f64 9223372036854775808)))).mono ?_
  rintro e w5 ⟨rfl, hb⟩
  have Kr := (HKr4.out.set 1 (.float .f64 9223372036854775808) (by simp)).below hb
  have Ka := (HKa4.out.other _ 1 (.float .f64 9223372036854775808) (by omega)).below hb
  simp only [List.set_cons_zero, List.set_cons_succ] at Kr
  have HB5 := Lib.hid ((HB4.out.setCell (p := ⟨w2.heap.size, 1, none⟩) (by show w.heap.size ≤ w2.heap.size; omega) (.float .f64 9223372036854775808)).trans (hb.mono (by have := HB4.out.size; simp <;> omega)))
  clear hb cr0 fr0 cr1 fr1 cr2 fr2 zr ca0 ca1 za
  have cr0 := Kr.cell 0 _ rfl
  have fr0 := Kr.froz 0 (by simp)
  have cr1 := Kr.cell 1 _ rfl
  have fr1 := Kr.froz 1 (by simp)
  have cr2 := Kr.cell 2 _ rfl
  have fr2 := Kr.froz 2 (by simp)
  have zr := Kr.lt
  have ca0 := Ka.cell 0 _ rfl
  have ca1 := Ka.cell 1 _ rfl
  have za := Ka.lt
  have HKr5 := Lib.hid Kr
  have HKa5 := Lib.hid Ka
  clear Kr Ka
  have hs5 := HB5.out.size
  have yr5 := zr
  go_wp2_with fail
  with_reducible refine (HL.out _ (((HB5.out.setCell (p := ⟨w2.heap.size, 1, none⟩) (by show w.heap.size ≤ w2.heap.size; omega) (.float .f64 fn)).alloc (by have := HB5.out.size; simp; omega) _))).mono ?_
  rintro e w6 ⟨rfl, hb⟩
  have Kr := ((HKr5.out.set 1 (.float .f64 fn) (by simp)).alloc _).below hb
  have Ka := ((HKa5.out.other _ 1 (.float .f64 fn) (by omega)).alloc _).below hb
  have Kb := (BlkL.new _ [.int .i64 T, .int .i64 0] 57).below hb
  try simp only [World.size_alloc] at Kb
  try simp only [World.size_setCell] at Kb
  simp only [List.set_cons_zero, List.set_cons_succ] at Kr
  have HB6 := Lib.hid (((HB5.out.setCell (p := ⟨w2.heap.size, 1, none⟩) (by show w.heap.size ≤ w2.heap.size; omega) (.float .f64 fn)).alloc (by have := HB5.out.size; simp; omega) _).trans (hb.mono (by have := HB5.out.size; simp <;> omega)))
  clear hb cr0 fr0 cr1 fr1 cr2 fr2 zr ca0 ca1 za
  have cr0 := Kr.cell 0 _ rfl
  have fr0 := Kr.froz 0 (by simp)
  have cr1 := Kr.cell 1 _ rfl
  have fr1 := Kr.froz 1 (by simp)
  have cr2 := Kr.cell 2 _ rfl
  have fr2 := Kr.froz 2 (by simp)
  have zr := Kr.lt
  have ca0 := Ka.cell 0 _ rfl
  have ca1 := Ka.cell 1 _ rfl
  have za := Ka.lt
  have cb0 := Kb.cell 0 _ rfl
  have cb1 := Kb.cell 1 _ rfl
  have zb := Kb.lt
  have HKr6 := Lib.hid Kr
  have HKa6 := Lib.hid Ka
  have HKb6 := Lib.hid Kb
  clear Kr Ka Kb
  have hs6 := HB6.out.size
  have yr6 := zr
  go_wp2
  have q1 : decide (0 < n) = true := decide_eq_true hn
  have q0 : ¬ n = 0 := by omega
  have q2 : (4611686018427387903 : Int).tdiv n = 4611686018427387903 / n := Int.tdiv_eq_ediv_of_nonneg (by omega)
  have q3 : 0 ≤ 4611686018427387903 / n := Int.ediv_nonneg (by omega) (by omega)
  have q4 : 4611686018427387903 / n ≤ 4611686018427387903 := Int.ediv_le_self _ (by omega)
  go_region
  all_goals go_wp2
  all_goals go_ret
  all_goals exact ⟨rfl, ((HB6.out.alloc (by have := HB6.out.size; simp; omega) _)).drew⟩


set_option maxHeartbeats 1600000 in
theorem rateBursts_i (w : World) (p fn fh : Nat) (hz T n : Int)
    (HA : Hid (∀ w', Below w.heap.size w w' → Calls Tryd.prog 43 #[] w' (ValEnd w' (.bool true))))
    (HO : Hid (∀ w, Calls Tryd.prog 40 #[.int .u64 (p : Int), .int .u64 0, .int .i64 hz] w (ValEnd w (RateV p 0 hz))))
    (HC : Hid (∀ w, Calls Tryd.prog 51 #[.float .f64 0, .float .f64 13830554455654793216] w (ValEnd w (.float .f64 9223372036854775808))))
    (HP : Hid (∀ w', Below w.heap.size w w' → Calls Tryd.prog 41 #[RateV p 0 hz] w' (ValEnd w' (.tuple #[.agg #[.int .i64 T, .int .i64 0], .int .i64 0]))))
    (HN : Hid (∀ w', Below w.heap.size w w' → Calls Tryd.prog 41 #[RateV p 9223372036854775808 hz] w' (ValEnd w' (.tuple #[.agg #[.int .i64 T, .int .i64 0], .int .i64 0]))))
    (hn0 : 0 ≤ n)
    (hn1 : n ≤ 65535)
    (hT1 : 1 ≤ T)
    (hT2 : T ≤ 4611686018427387903)
    (HF : floatOfInt FloatKind.f64 n = fn)
    (HL : Hid (∀ w', Below w.heap.size w w' → Calls Tryd.prog 41 #[RateV p fn hz] w' (ValEnd w' (.tuple #[.agg #[.int .i64 T, .int .i64 (n * T)], .int .i64 0]))))
    (HQ : Hid (∀ w, Calls Tryd.prog 47 #[.agg #[.int .i64 T, .int .i64 (n * T)]] w (ValEnd w (.tuple #[.int .i64 (n + 1), .int .i64 0]))))
    (hU0 : 0 ≤ n * T)
    (hU1 : n * T ≤ 4611686018427387903)
    (HAD : Hid (∀ w, (binOp .add 23 (.float .f64 fn) (.float .f64 4602678819172646912)).run Tryd.prog w = .ok (.float .f64 fh) w))
    (HM : Hid (∀ w', Below w.heap.size w w' → Calls Tryd.prog 41 #[RateV p fh hz] w' (ValEnd w' (.tuple #[.agg #[.int .i64 0, .int .i64 0], .int .i64 5])))) :
    Calls Tryd.prog 14 #[.int .u64 (p : Int), .int .i64 hz, .int .u16 n] w (ValEnd w (.bool true)) := by
  have kst : ∀ (a : Addr) (x : Nat) (w : World), (store a (.float .f64 x)).run Tryd.prog w = stored Tryd.prog w a (.float .f64 x) .plain := fun a x w => run_store _ _ _ _ _ rfl
  have NE := neqL T 0
  have HAD2 := HAD.out
  go_enter Tryd.func14, Tryd.ntmps14
  go_wp2_with fail
  with_reducible refine (HA.out _ ((Below.refl w.heap.size w))).mono ?_
  rintro e w1 ⟨rfl, hb⟩
  have HB1 := Lib.hid ((Below.refl w.heap.size w).trans (hb.mono (by simp <;> omega)))
  clear hb
  have hs1 := HB1.out.size
  go_wp2_with fail
  with_reducible refine (HO.out _).mono ?_
  rintro e w2 ⟨rfl, hb⟩
  have HB2 := Lib.hid (HB1.out.trans (hb.mono (by have := HB1.out.size; simp <;> omega)))
  clear hb
  have hs2 := HB2.out.size
  go_wp2_with fail
  with_reducible refine (HP.out _ ((HB2.out.alloc (by have := HB2.out.size; simp; omega) _))).mono ?_
  rintro e w3 ⟨rfl, hb⟩
  have Kr := (BlkL.new _ [.float .f64 p, .float .f64 0, .int .i64 hz] 54).below hb
  try simp only [World.size_alloc] at Kr
  have HB3 := Lib.hid ((HB2.out.alloc (by have := HB2.out.size; simp; omega) _).trans (hb.mono (by have := HB2.out.size; simp <;> omega)))
  clear hb
  have cr0 := Kr.cell 0 _ rfl
  have fr0 := Kr.froz 0 (by simp)
  have cr1 := Kr.cell 1 _ rfl
  have fr1 := Kr.froz 1 (by simp)
  have cr2 := Kr.cell 2 _ rfl
  have fr2 := Kr.froz 2 (by simp)
  have zr := Kr.lt
  have HKr3 := Lib.hid Kr
  clear Kr
  have hs3 := HB3.out.size
  have yr3 := zr
  go_wp2_with fail
  with_reducible refine (HC.out _).mono ?_
  rintro e w4 ⟨rfl, hb⟩
  have Kr := (HKr3.out.alloc _).below hb
  have Ka := (BlkL.new _ [.int .i64 T, .int .i64 0] 57).below hb
  try simp only [World.size_alloc] at Ka
  have HB4 := Lib.hid ((HB3.out.alloc (by have := HB3.out.size; simp; omega) _).trans (hb.mono (by have := HB3.out.size; simp <;> omega)))
  clear hb cr0 fr0 cr1 fr1 cr2 fr2 zr
  have cr0 := Kr.cell 0 _ rfl
  have fr0 := Kr.froz 0 (by simp)
  have cr1 := Kr.cell 1 _ rfl
  have fr1 := Kr.froz 1 (by simp)
  have cr2 := Kr.cell 2 _ rfl
  have fr2 := Kr.froz 2 (by simp)
  have zr := Kr.lt
  have ca0 := Ka.cell 0 _ rfl
  have ca1 := Ka.cell 1 _ rfl
  have za := Ka.lt
  have HKr4 := Lib.hid Kr
  have HKa4 := Lib.hid Ka
  clear Kr Ka
  have hs4 := HB4.out.size
  have yr4 := zr
  go_wp2_with fail
  with_reducible refine (HN.out _ ((HB4.out.setCell (p := ⟨w2.heap.size, 1, none⟩) (by show w.heap.size ≤ w2.heap.size; omega) (.float .f64 9223372036854775808)))).mono ?_
  rintro e w5 ⟨rfl, hb⟩
  have Kr := (HKr4.out.set 1 (.float .f64 9223372036854775808) (by simp)).below hb
  have Ka := (HKa4.out.other _ 1 (.float .f64 9223372036854775808) (by omega)).below hb
  simp only [List.set_cons_zero, List.set_cons_succ] at Kr
  have HB5 := Lib.hid ((HB4.out.setCell (p := ⟨w2.heap.size, 1, none⟩) (by show w.heap.size ≤ w2.heap.size; omega) (.float .f64 9223372036854775808)).trans (hb.mono (by have := HB4.out.size; simp <;> omega)))
  clear hb cr0 fr0 cr1 fr1 cr2 fr2 zr ca0 ca1 za
  have cr0 := Kr.cell 0 _ rfl
  have fr0 := Kr.froz 0 (by simp)
  have cr1 := Kr.cell 1 _ rfl
  have fr1 := Kr.froz 1 (by simp)
  have cr2 := Kr.cell 2 _ rfl
  have fr2 := Kr.froz 2 (by simp)
  have zr := Kr.lt
  have ca0 := Ka.cell 0 _ rfl
  have ca1 := Ka.cell 1 _ rfl
  have za := Ka.lt
  have HKr5 := Lib.hid Kr
  have HKa5 := Lib.hid Ka
  clear Kr Ka
  have hs5 := HB5.out.size
  have yr5 := zr
  go_wp2_with fail
  with_reducible refine (HL.out _ (((HB5.out.setCell (p := ⟨w2.heap.size, 1, none⟩) (by show w.heap.size ≤ w2.heap.size; omega) (.float .f64 fn)).alloc (by have := HB5.out.size; simp; omega) _))).mono ?_
  rintro e w6 ⟨rfl, hb⟩
  have Kr := ((HKr5.out.set 1 (.float .f64 fn) (by simp)).alloc _).below hb
  have Ka := ((HKa5.out.other _ 1 (.float .f64 fn) (by omega)).alloc _).below hb
  have Kb := (BlkL.new _ [.int .i64 T, .int .i64 0] 57).below hb
  try simp only [World.size_alloc] at Kb
  try simp only [World.size_setCell] at Kb
  simp only [List.set_cons_zero, List.set_cons_succ] at Kr
  have HB6 := Lib.hid (((HB5.out.setCell (p := ⟨w2.heap.size, 1, none⟩) (by show w.heap.size ≤ w2.heap.size; omega) (.float .f64 fn)).alloc (by have := HB5.out.size; simp; omega) _).trans (hb.mono (by have := HB5.out.size; simp <;> omega)))
  clear hb cr0 fr0 cr1 fr1 cr2 fr2 zr ca0 ca1 za
  have cr0 := Kr.cell 0 _ rfl
  have fr0 := Kr.froz 0 (by simp)
  have cr1 := Kr.cell 1 _ rfl
  have fr1 := Kr.froz 1 (by simp)
  have cr2 := Kr.cell 2 _ rfl
  have fr2 := Kr.froz 2 (by simp)
  have zr := Kr.lt
  have ca0 := Ka.cell 0 _ rfl
  have ca1 := Ka.cell 1 _ rfl
  have za := Ka.lt
  have cb0 := Kb.cell 0 _ rfl
  have cb1 := Kb.cell 1 _ rfl
  have zb := Kb.lt
  have HKr6 := Lib.hid Kr
  have HKa6 := Lib.hid Ka
  have HKb6 := Lib.hid Kb
  clear Kr Ka Kb
  have hs6 := HB6.out.size
  have yr6 := zr
  go_wp2_with fail
  with_reducible refine (HQ.out _).mono ?_
  rintro e w7 ⟨rfl, hb⟩
  have Kr := (HKr6.out.alloc _).below hb
  have Ka := (HKa6.out.alloc _).below hb
  have Kb := (HKb6.out.alloc _).below hb
  have Kl := (BlkL.new _ [.int .i64 T, .int .i64 (n * T)] 57).below hb
  try simp only [World.size_alloc] at Kl
  have HB7 := Lib.hid ((HB6.out.alloc (by have := HB6.out.size; simp; omega) _).trans (hb.mono (by have := HB6.out.size; simp <;> omega)))
  clear hb cr0 fr0 cr1 fr1 cr2 fr2 zr ca0 ca1 za cb0 cb1 zb
  have cr0 := Kr.cell 0 _ rfl
  have fr0 := Kr.froz 0 (by simp)
  have cr1 := Kr.cell 1 _ rfl
  have fr1 := Kr.froz 1 (by simp)
  have cr2 := Kr.cell 2 _ rfl
  have fr2 := Kr.froz 2 (by simp)
  have zr := Kr.lt
  have ca0 := Ka.cell 0 _ rfl
  have ca1 := Ka.cell 1 _ rfl
  have za := Ka.lt
  have cb0 := Kb.cell 0 _ rfl
  have cb1 := Kb.cell 1 _ rfl
  have zb := Kb.lt
  have cl0 := Kl.cell 0 _ rfl
  have cl1 := Kl.cell 1 _ rfl
  have zl := Kl.lt
  have HKr7 := Lib.hid Kr
  have HKa7 := Lib.hid Ka
  have HKb7 := Lib.hid Kb
  have HKl7 := Lib.hid Kl
  clear Kr Ka Kb Kl
  have hs7 := HB7.out.size
  have yr7 := zr
  go_wp2_with fail
  with_reducible refine (HM.out _ ((HB7.out.setCell (p := ⟨w2.heap.size, 1, none⟩) (by show w.heap.size ≤ w2.heap.size; omega) (.float .f64 fh)))).mono ?_
  rintro e w8 ⟨rfl, hb⟩
  have Kr := (HKr7.out.set 1 (.float .f64 fh) (by simp)).below hb
  have Ka := (HKa7.out.other _ 1 (.float .f64 fh) (by omega)).below hb
  have Kb := (HKb7.out.other _ 1 (.float .f64 fh) (by omega)).below hb
  have Kl := (HKl7.out.other _ 1 (.float .f64 fh) (by omega)).below hb
  simp only [List.set_cons_zero, List.set_cons_succ] at Kr
  have HB8 := Lib.hid ((HB7.out.setCell (p := ⟨w2.heap.size, 1, none⟩) (by show w.heap.size ≤ w2.heap.size; omega) (.float .f64 fh)).trans (hb.mono (by have := HB7.out.size; simp <;> omega)))
  clear hb cr0 fr0 cr1 fr1 cr2 fr2 zr ca0 ca1 za cb0 cb1 zb cl0 cl1 zl
  have cr0 := Kr.cell 0 _ rfl
  have fr0 := Kr.froz 0 (by simp)
  have cr1 := Kr.cell 1 _ rfl
  have fr1 := Kr.froz 1 (by simp)
  have cr2 := Kr.cell 2 _ rfl
  have fr2 := Kr.froz 2 (by simp)
  have zr := Kr.lt
  have ca0 := Ka.cell 0 _ rfl
  have ca1 := Ka.cell 1 _ rfl
  have za := Ka.lt
  have cb0 := Kb.cell 0 _ rfl
  have cb1 := Kb.cell 1 _ rfl
  have zb := Kb.lt
  have cl0 := Kl.cell 0 _ rfl
  have cl1 := Kl.cell 1 _ rfl
  have zl := Kl.lt
  have HKr8 := Lib.hid Kr
  have HKa8 := Lib.hid Ka
  have HKb8 := Lib.hid Kb
  have HKl8 := Lib.hid Kl
  clear Kr Ka Kb Kl
  have hs8 := HB8.out.size
  have yr8 := zr
  go_wp2
  go_ret
  exact ⟨rfl, (HB8.out.alloc (by have := HB8.out.size; simp; omega) _)⟩


set_option maxHeartbeats 1600000 in
theorem rateBursts_k (w : World) (p fn fh : Nat) (hz T n V : Int)
    (HA : Hid (∀ w', Below w.heap.size w w' → Calls Tryd.prog 43 #[] w' (ValEnd w' (.bool true))))
    (HO : Hid (∀ w, Calls Tryd.prog 40 #[.int .u64 (p : Int), .int .u64 0, .int .i64 hz] w (ValEnd w (RateV p 0 hz))))
    (HC : Hid (∀ w, Calls Tryd.prog 51 #[.float .f64 0, .float .f64 13830554455654793216] w (ValEnd w (.float .f64 9223372036854775808))))
    (HP : Hid (∀ w', Below w.heap.size w w' → Calls Tryd.prog 41 #[RateV p 0 hz] w' (ValEnd w' (.tuple #[.agg #[.int .i64 T, .int .i64 0], .int .i64 0]))))
    (HN : Hid (∀ w', Below w.heap.size w w' → Calls Tryd.prog 41 #[RateV p 9223372036854775808 hz] w' (ValEnd w' (.tuple #[.agg #[.int .i64 T, .int .i64 0], .int .i64 0]))))
    (hn0 : 0 ≤ n)
    (hn1 : n ≤ 65535)
    (hT1 : 1 ≤ T)
    (hT2 : T ≤ 4611686018427387903)
    (HF : floatOfInt FloatKind.f64 n = fn)
    (HL : Hid (∀ w', Below w.heap.size w w' → Calls Tryd.prog 41 #[RateV p fn hz] w' (ValEnd w' (.tuple #[.agg #[.int .i64 T, .int .i64 (n * T)], .int .i64 0]))))
    (HQ : Hid (∀ w, Calls Tryd.prog 47 #[.agg #[.int .i64 T, .int .i64 (n * T)]] w (ValEnd w (.tuple #[.int .i64 (n + 1), .int .i64 0]))))
    (hU0 : 0 ≤ n * T)
    (hU1 : n * T ≤ 4611686018427387903)
    (HAD : Hid (∀ w, (binOp .add 23 (.float .f64 fn) (.float .f64 4602678819172646912)).run Tryd.prog w = .ok (.float .f64 fh) w))
    (HM : Hid (∀ w', Below w.heap.size w w' → Calls Tryd.prog 41 #[RateV p fh hz] w' (ValEnd w' (.tuple #[.agg #[.int .i64 T, .int .i64 V], .int .i64 0]))))
    (hV : n * T ≤ V)
    (hV1 : V ≤ 4611686018427387903)
    (hV2 : V - n * T ≤ T / 2) :
    Calls Tryd.prog 14 #[.int .u64 (p : Int), .int .i64 hz, .int .u16 n] w (ValEnd w (.bool true)) := by
  have kst : ∀ (a : Addr) (x : Nat) (w : World), (store a (.float .f64 x)).run Tryd.prog w = stored Tryd.prog w a (.float .f64 x) .plain := fun a x w => run_store _ _ _ _ _ rfl
  have NE := neqL T 0
  have HAD2 := HAD.out
  go_enter Tryd.func14, Tryd.ntmps14
  go_wp2_with fail
  with_reducible refine (HA.out _ ((Below.refl w.heap.size w))).mono ?_
  rintro e w1 ⟨rfl, hb⟩
  have HB1 := Lib.hid ((Below.refl w.heap.size w).trans (hb.mono (by simp <;> omega)))
  clear hb
  have hs1 := HB1.out.size
  go_wp2_with fail
  with_reducible refine (HO.out _).mono ?_
  rintro e w2 ⟨rfl, hb⟩
  have HB2 := Lib.hid (HB1.out.trans (hb.mono (by have := HB1.out.size; simp <;> omega)))
  clear hb
  have hs2 := HB2.out.size
  go_wp2_with fail
  with_reducible refine (HP.out _ ((HB2.out.alloc (by have := HB2.out.size; simp; omega) _))).mono ?_
  rintro e w3 ⟨rfl, hb⟩
  have Kr := (BlkL.new _ [.float .f64 p, .float .f64 0, .int .i64 hz] 54).below hb
  try simp only [World.size_alloc] at Kr
  have HB3 := Lib.hid ((HB2.out.alloc (by have := HB2.out.size; simp; omega) _).trans (hb.mono (by have := HB2.out.size; simp <;> omega)))
  clear hb
  have cr0 := Kr.cell 0 _ rfl
  have fr0 := Kr.froz 0 (by simp)
  have cr1 := Kr.cell 1 _ rfl
  have fr1 := Kr.froz 1 (by simp)
  have cr2 := Kr.cell 2 _ rfl
  have fr2 := Kr.froz 2 (by simp)
  have zr := Kr.lt
  have HKr3 := Lib.hid Kr
  clear Kr
  have hs3 := HB3.out.size
  have yr3 := zr
  go_wp2_with fail
  with_reducible refine (HC.out _).mono ?_
  rintro e w4 ⟨rfl, hb⟩
  have Kr := (HKr3.out.alloc _).below hb
  have Ka := (BlkL.new _ [.int .i64 T, .int .i64 0] 57).below hb
  try simp only [World.size_alloc] at Ka
  have HB4 := Lib.hid ((HB3.out.alloc (by have := HB3.out.size; simp; omega) _).trans (hb.mono (by have := HB3.out.size; simp <;> omega)))
  clear hb cr0 fr0 cr1 fr1 cr2 fr2 zr
  have cr0 := Kr.cell 0 _ rfl
  have fr0 := Kr.froz 0 (by simp)
  have cr1 := Kr.cell 1 _ rfl
  have fr1 := Kr.froz 1 (by simp)
  have cr2 := Kr.cell 2 _ rfl
  have fr2 := Kr.froz 2 (by simp)
  have zr := Kr.lt
  have ca0 := Ka.cell 0 _ rfl
  have ca1 := Ka.cell 1 _ rfl
  have za := Ka.lt
  have HKr4 := Lib.hid Kr
  have HKa4 := Lib.hid Ka
  clear Kr Ka
  have hs4 := HB4.out.size
  have yr4 := zr
  go_wp2_with fail
  with_reducible refine (HN.out _ ((HB4.out.setCell (p := ⟨w2.heap.size, 1, none⟩) (by show w.heap.size ≤ w2.heap.size; omega) (.float .f64 9223372036854775808)))).mono ?_
  rintro e w5 ⟨rfl, hb⟩
  have Kr := (HKr4.out.set 1 (.float .f64 9223372036854775808) (by simp)).below hb
  have Ka := (HKa4.out.other _ 1 (.float .f64 9223372036854775808) (by omega)).below hb
  simp only [List.set_cons_zero, List.set_cons_succ] at Kr
  have HB5 := Lib.hid ((HB4.out.setCell (p := ⟨w2.heap.size, 1, none⟩) (by show w.heap.size ≤ w2.heap.size; omega) (.float .f64 9223372036854775808)).trans (hb.mono (by have := HB4.out.size; simp <;> omega)))
  clear hb cr0 fr0 cr1 fr1 cr2 fr2 zr ca0 ca1 za
  have cr0 := Kr.cell 0 _ rfl
  have fr0 := Kr.froz 0 (by simp)
  have cr1 := Kr.cell 1 _ rfl
  have fr1 := Kr.froz 1 (by simp)
  have cr2 := Kr.cell 2 _ rfl
  have fr2 := Kr.froz 2 (by simp)
  have zr := Kr.lt
  have ca0 := Ka.cell 0 _ rfl
  have ca1 := Ka.cell 1 _ rfl
  have za := Ka.lt
  have HKr5 := Lib.hid Kr
  have HKa5 := Lib.hid Ka
  clear Kr Ka
  have hs5 := HB5.out.size
  have yr5 := zr
  go_wp2_with fail
  with_reducible refine (HL.out _ (((HB5.out.setCell (p := ⟨w2.heap.size, 1, none⟩) (by show w.heap.size ≤ w2.heap.size; omega) (.float .f64 fn)).alloc (by have := HB5.out.size; simp; omega) _))).mono ?_
  rintro e w6 ⟨rfl, hb⟩
  have Kr := ((HKr5.out.set 1 (.float .f64 fn) (by simp)).alloc _).below hb
  have Ka := ((HKa5.out.other _ 1 (.float .f64 fn) (by omega)).alloc _).below hb
  have Kb := (BlkL.new _ [.int .i64 T, .int .i64 0] 57).below hb
  try simp only [World.size_alloc] at Kb
  try simp only [World.size_setCell] at Kb
  simp only [List.set_cons_zero, List.set_cons_succ] at Kr
  have HB6 := Lib.hid (((HB5.out.setCell (p := ⟨w2.heap.size, 1, none⟩) (by show w.heap.size ≤ w2.heap.size; omega) (.float .f64 fn)).alloc (by have := HB5.out.size; simp; omega) _).trans (hb.mono (by have := HB5.out.size; simp <;> omega)))
  clear hb cr0 fr0 cr1 fr1 cr2 fr2 zr ca0 ca1 za
  have cr0 := Kr.cell 0 _ rfl
  have fr0 := Kr.froz 0 (by simp)
  have cr1 := Kr.cell 1 _ rfl
  have fr1 := Kr.froz 1 (by simp)
  have cr2 := Kr.cell 2 _ rfl
  have fr2 := Kr.froz 2 (by simp)
  have zr := Kr.lt
  have ca0 := Ka.cell 0 _ rfl
  have ca1 := Ka.cell 1 _ rfl
  have za := Ka.lt
  have cb0 := Kb.cell 0 _ rfl
  have cb1 := Kb.cell 1 _ rfl
  have zb := Kb.lt
  have HKr6 := Lib.hid Kr
  have HKa6 := Lib.hid Ka
  have HKb6 := Lib.hid Kb
  clear Kr Ka Kb
  have hs6 := HB6.out.size
  have yr6 := zr
  go_wp2_with fail
  with_reducible refine (HQ.out _).mono ?_
  rintro e w7 ⟨rfl, hb⟩
  have Kr := (HKr6.out.alloc _).below hb
  have Ka := (HKa6.out.alloc _).below hb
  have Kb := (HKb6.out.alloc _).below hb
  have Kl := (BlkL.new _ [.int .i64 T, .int .i64 (n * T)] 57).below hb
  try simp only [World.size_alloc] at Kl
  have HB7 := Lib.hid ((HB6.out.alloc (by have := HB6.out.size; simp; omega) _).trans (hb.mono (by have := HB6.out.size; simp <;> omega)))
  clear hb cr0 fr0 cr1 fr1 cr2 fr2 zr ca0 ca1 za cb0 cb1 zb
  have cr0 := Kr.cell 0 _ rfl
  have fr0 := Kr.froz 0 (by simp)
  have cr1 := Kr.cell 1 _ rfl
  have fr1 := Kr.froz 1 (by simp)
  have cr2 := Kr.cell 2 _ rfl
  have fr2 := Kr.froz 2 (by simp)
  have zr := Kr.lt
  have ca0 := Ka.cell 0 _ rfl
  have ca1 := Ka.cell 1 _ rfl
  have za := Ka.lt
  have cb0 := Kb.cell 0 _ rfl
  have cb1 := Kb.cell 1 _ rfl
  have zb := Kb.lt
  have cl0 := Kl.cell 0 _ rfl
  have cl1 := Kl.cell 1 _ rfl
  have zl := Kl.lt
  have HKr7 := Lib.hid Kr
  have HKa7 := Lib.hid Ka
  have HKb7 := Lib.hid Kb
  have HKl7 := Lib.hid Kl
  clear Kr Ka Kb Kl
  have hs7 := HB7.out.size
  have yr7 := zr
  go_wp2_with fail
  with_reducible refine (HM.out _ ((HB7.out.setCell (p := ⟨w2.heap.size, 1, none⟩) (by show w.heap.size ≤ w2.heap.size; omega) (.float .f64 fh)))).mono ?_
  rintro e w8 ⟨rfl, hb⟩
  have Kr := (HKr7.out.set 1 (.float .f64 fh) (by simp)).below hb
  have Ka := (HKa7.out.other _ 1 (.float .f64 fh) (by omega)).below hb
  have Kb := (HKb7.out.other _ 1 (.float .f64 fh) (by omega)).below hb
  have Kl := (HKl7.out.other _ 1 (.float .f64 fh) (by omega)).below hb
  simp only [List.set_cons_zero, List.set_cons_succ] at Kr
  have HB8 := Lib.hid ((HB7.out.setCell (p := ⟨w2.heap.size, 1, none⟩) (by show w.heap.size ≤ w2.heap.size; omega) (.float .f64 fh)).trans (hb.mono (by have := HB7.out.size; simp <;> omega)))
  clear hb cr0 fr0 cr1 fr1 cr2 fr2 zr ca0 ca1 za cb0 cb1 zb cl0 cl1 zl
  have cr0 := Kr.cell 0 _ rfl
  have fr0 := Kr.froz 0 (by simp)
  have cr1 := Kr.cell 1 _ rfl
  have fr1 := Kr.froz 1 (by simp)
  have cr2 := Kr.cell 2 _ rfl
  have fr2 := Kr.froz 2 (by simp)
  have zr := Kr.lt
  have ca0 := Ka.cell 0 _ rfl
  have ca1 := Ka.cell 1 _ rfl
  have za := Ka.lt
  have cb0 := Kb.cell 0 _ rfl
  have cb1 := Kb.cell 1 _ rfl
  have zb := Kb.lt
  have cl0 := Kl.cell 0 _ rfl
  have cl1 := Kl.cell 1 _ rfl
  have zl := Kl.lt
  have HKr8 := Lib.hid Kr
  have HKa8 := Lib.hid Ka
  have HKb8 := Lib.hid Kb
  have HKl8 := Lib.hid Kl
  clear Kr Ka Kb Kl
  have hs8 := HB8.out.size
  have yr8 := zr
  go_wp2
  go_ret
  exact ⟨rfl, (HB8.out.alloc (by have := HB8.out.size; simp; omega) _)⟩


end Go.Proofs.YtafboimlchjnaaaDoor
