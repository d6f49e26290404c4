/- The law GcraIdle: its walk. -/
import Derived.Test.YthigbhhhhebjeaaLaw5d
import Derived.Test.YthigbhhhhebjeaaSums
namespace Go.Proofs.Ythigbhhhhebjeaa
open Go.RowKit
set_option maxRecDepth 100000
set_option linter.unusedVariables false

set_option maxHeartbeats 3200000 in
theorem gcraIdle_b0 (T Tau x y z mr : Int) (w : World) (t u tat now n t3 x3 l3 : Nat)
    (HA : Hid (∀ w, Calls Try.prog 17 #[] w (ValEnd w (.bool true))))
    (HC : Hid (∀ w, Calls Try.prog 26 #[.agg #[.int .i64 T, .int .i64 Tau], .int .i64 x, .int .i64 y, .int .i64 z] w (ValEnd w (.tuple #[.agg #[.int .i64 (t : Int), .int .i64 (u : Int)], .int .i64 (tat : Int), .int .i64 (now : Int), .int .i64 (n : Int)]))))
    (HI : Hid (∀ w, Calls Try.prog 21 #[.int .i64 (tat : Int), .int .i64 (now : Int)] w (ValEnd w (.tuple #[.bool false, .int .i64 0]))))
    (HD3 : Hid (∀ w, Calls Try.prog 15 #[.agg #[.int .i64 (t : Int), .int .i64 (u : Int)], .int .i64 (tat : Int), .int .i64 (now : Int), .int .i64 (n : Int)] w (ValEnd w (.tuple #[.agg #[.bool false, .int .i64 (t3 : Int), .int .i64 (x3 : Int), .int .i64 (l3 : Int)], .int .i64 0]))))
    (hle : decide ((tat : Int) ≤ (now : Int)) = false)
    (hle2 : ¬ tat ≤ now)
    (hn : 0 < n) :
    Calls Try.prog 8 #[.agg #[.int .i64 T, .int .i64 Tau], .int .i64 x, .int .i64 y, .int .i64 z, .int .u16 mr] w (ValEnd w (.bool true)) := by
  have hz : ((n : Int) == 0) = false := by simp; omega
  have hz2 : decide (0 < (n : Int)) = true := by simp; omega
  go_enter Try.func8, Try.ntmps8
  go_wp2_with fail
  with_reducible refine (HA.out _).mono ?_
  rintro e w1 ⟨rfl, hb⟩
  have Kl := (BlkL.new _ [.int .i64 T, .int .i64 Tau] 23).below hb
  try simp only [World.size_alloc] at Kl
  have HB1 := Lib.hid (((Below.refl w.heap.size w).alloc (by simp <;> omega) _).trans (hb.mono (by simp <;> omega)))
  clear hb
  have cl0 := Kl.cell 0 _ rfl
  have fl0 := Kl.froz 0 (by simp)
  have cl1 := Kl.cell 1 _ rfl
  have fl1 := Kl.froz 1 (by simp)
  have zl := Kl.lt
  have HKl1 := Lib.hid Kl
  clear Kl
  go_wp2_with fail
  with_reducible refine (HC.out _).mono ?_
  rintro e w2 ⟨rfl, hb⟩
  have Kl := HKl1.out.below hb
  have HB2 := Lib.hid (HB1.out.trans (hb.mono (by have := HB1.out.size; simp <;> omega)))
  clear hb cl0 fl0 cl1 fl1 zl
  have cl0 := Kl.cell 0 _ rfl
  have fl0 := Kl.froz 0 (by simp)
  have cl1 := Kl.cell 1 _ rfl
  have fl1 := Kl.froz 1 (by simp)
  have zl := Kl.lt
  have HKl2 := Lib.hid Kl
  clear Kl
  go_wp2_with fail
  with_reducible refine (HI.out _).mono ?_
  rintro e w3 ⟨rfl, hb⟩
  have Kl := ((HKl2.out.set 0 (.int .i64 (t : Int)) (by simp)).set 1 (.int .i64 (u : Int)) (by simp)).below hb
  simp only [List.set_cons_zero, List.set_cons_succ] at Kl
  have HB3 := Lib.hid (((HB2.out.setCell (p := ⟨w.heap.size, 0, none⟩) (by show w.heap.size ≤ w.heap.size; omega) (.int .i64 (t : Int))).setCell (p := ⟨w.heap.size, 1, none⟩) (by show w.heap.size ≤ w.heap.size; omega) (.int .i64 (u : Int))).trans (hb.mono (by have := HB2.out.size; simp <;> omega)))
  clear hb cl0 fl0 cl1 fl1 zl
  have cl0 := Kl.cell 0 _ rfl
  have cl1 := Kl.cell 1 _ rfl
  have zl := Kl.lt
  have HKl3 := Lib.hid Kl
  clear Kl
  go_wp2_with fail
  with_reducible refine (HD3.out _).mono ?_
  rintro e w4 ⟨rfl, hb⟩
  have Kl := HKl3.out.below hb
  have HB4 := Lib.hid (HB3.out.trans (hb.mono (by have := HB3.out.size; simp <;> omega)))
  clear hb cl0 cl1 zl
  have HKl4 := Lib.hid Kl
  clear Kl
  go_wp2
  go_ret
  exact ⟨rfl, HB4.out.alloc HB4.out.size _⟩


set_option maxHeartbeats 3200000 in
theorem gcraIdle_b1 (T Tau x y z mr : Int) (w : World) (t u tat now n t3 x3 l3 : Nat)
    (HA : Hid (∀ w, Calls Try.prog 17 #[] w (ValEnd w (.bool true))))
    (HC : Hid (∀ w, Calls Try.prog 26 #[.agg #[.int .i64 T, .int .i64 Tau], .int .i64 x, .int .i64 y, .int .i64 z] w (ValEnd w (.tuple #[.agg #[.int .i64 (t : Int), .int .i64 (u : Int)], .int .i64 (tat : Int), .int .i64 (now : Int), .int .i64 (n : Int)]))))
    (HI : Hid (∀ w, Calls Try.prog 21 #[.int .i64 (tat : Int), .int .i64 (now : Int)] w (ValEnd w (.tuple #[.bool false, .int .i64 0]))))
    (HD3 : Hid (∀ w, Calls Try.prog 15 #[.agg #[.int .i64 (t : Int), .int .i64 (u : Int)], .int .i64 (tat : Int), .int .i64 (now : Int), .int .i64 (n : Int)] w (ValEnd w (.tuple #[.agg #[.bool true, .int .i64 (t3 : Int), .int .i64 (x3 : Int), .int .i64 (l3 : Int)], .int .i64 0]))))
    (HI1 : Hid (∀ w, Calls Try.prog 21 #[.int .i64 (t3 : Int), .int .i64 (t3 : Int)] w (ValEnd w (.tuple #[.bool true, .int .i64 0]))))
    (HI2 : Hid (∀ w, Calls Try.prog 21 #[.int .i64 (t3 : Int), .int .i64 ((t3 : Int) - 1)] w (ValEnd w (.tuple #[.bool false, .int .i64 0]))))
    (ht3 : (1 : Int) ≤ (t3 : Int))
    (ht32 : (t3 : Int) ≤ 4611686018427387903)
    (hle : decide ((tat : Int) ≤ (now : Int)) = false)
    (hle2 : ¬ tat ≤ now)
    (hn : 0 < n) :
    Calls Try.prog 8 #[.agg #[.int .i64 T, .int .i64 Tau], .int .i64 x, .int .i64 y, .int .i64 z, .int .u16 mr] w (ValEnd w (.bool true)) := by
  have hz : ((n : Int) == 0) = false := by simp; omega
  have hz2 : decide (0 < (n : Int)) = true := by simp; omega
  go_enter Try.func8, Try.ntmps8
  go_wp2_with fail
  with_reducible refine (HA.out _).mono ?_
  rintro e w1 ⟨rfl, hb⟩
  have Kl := (BlkL.new _ [.int .i64 T, .int .i64 Tau] 23).below hb
  try simp only [World.size_alloc] at Kl
  have HB1 := Lib.hid (((Below.refl w.heap.size w).alloc (by simp <;> omega) _).trans (hb.mono (by simp <;> omega)))
  clear hb
  have cl0 := Kl.cell 0 _ rfl
  have fl0 := Kl.froz 0 (by simp)
  have cl1 := Kl.cell 1 _ rfl
  have fl1 := Kl.froz 1 (by simp)
  have zl := Kl.lt
  have HKl1 := Lib.hid Kl
  clear Kl
  go_wp2_with fail
  with_reducible refine (HC.out _).mono ?_
  rintro e w2 ⟨rfl, hb⟩
  have Kl := HKl1.out.below hb
  have HB2 := Lib.hid (HB1.out.trans (hb.mono (by have := HB1.out.size; simp <;> omega)))
  clear hb cl0 fl0 cl1 fl1 zl
  have cl0 := Kl.cell 0 _ rfl
  have fl0 := Kl.froz 0 (by simp)
  have cl1 := Kl.cell 1 _ rfl
  have fl1 := Kl.froz 1 (by simp)
  have zl := Kl.lt
  have HKl2 := Lib.hid Kl
  clear Kl
  go_wp2_with fail
  with_reducible refine (HI.out _).mono ?_
  rintro e w3 ⟨rfl, hb⟩
  have Kl := ((HKl2.out.set 0 (.int .i64 (t : Int)) (by simp)).set 1 (.int .i64 (u : Int)) (by simp)).below hb
  simp only [List.set_cons_zero, List.set_cons_succ] at Kl
  have HB3 := Lib.hid (((HB2.out.setCell (p := ⟨w.heap.size, 0, none⟩) (by show w.heap.size ≤ w.heap.size; omega) (.int .i64 (t : Int))).setCell (p := ⟨w.heap.size, 1, none⟩) (by show w.heap.size ≤ w.heap.size; omega) (.int .i64 (u : Int))).trans (hb.mono (by have := HB2.out.size; simp <;> omega)))
  clear hb cl0 fl0 cl1 fl1 zl
  have cl0 := Kl.cell 0 _ rfl
  have cl1 := Kl.cell 1 _ rfl
  have zl := Kl.lt
  have HKl3 := Lib.hid Kl
  clear Kl
  go_wp2_with fail
  with_reducible refine (HD3.out _).mono ?_
  rintro e w4 ⟨rfl, hb⟩
  have Kl := HKl3.out.below hb
  have HB4 := Lib.hid (HB3.out.trans (hb.mono (by have := HB3.out.size; simp <;> omega)))
  clear hb cl0 cl1 zl
  have HKl4 := Lib.hid Kl
  clear Kl
  go_wp2_with fail
  with_reducible refine (HI1.out _).mono ?_
  rintro e w5 ⟨rfl, hb⟩
  have Kl := (HKl4.out.alloc _).below hb
  have Kc := (BlkL.new _ [.bool true, .int .i64 (t3 : Int), .int .i64 (x3 : Int), .int .i64 (l3 : Int)] 25).below hb
  try simp only [World.size_alloc] at Kc
  have HB5 := Lib.hid ((HB4.out.alloc (by have := HB4.out.size; simp; omega) _).trans (hb.mono (by have := HB4.out.size; simp <;> omega)))
  clear hb
  have cc0 := Kc.cell 0 _ rfl
  have cc1 := Kc.cell 1 _ rfl
  have cc2 := Kc.cell 2 _ rfl
  have cc3 := Kc.cell 3 _ rfl
  have zc := Kc.lt
  have HKl5 := Lib.hid Kl
  have HKc5 := Lib.hid Kc
  clear Kl Kc
  go_wp2_with fail
  with_reducible refine (HI2.out _).mono ?_
  rintro e w6 ⟨rfl, hb⟩
  have Kl := HKl5.out.below hb
  have Kc := HKc5.out.below hb
  have HB6 := Lib.hid (HB5.out.trans (hb.mono (by have := HB5.out.size; simp <;> omega)))
  clear hb cc0 cc1 cc2 cc3 zc
  have HKl6 := Lib.hid Kl
  have HKc6 := Lib.hid Kc
  clear Kl Kc
  go_wp2
  go_ret
  exact ⟨rfl, HB6.out⟩


set_option maxHeartbeats 3200000 in
theorem gcraIdle_b2 (T Tau x y z mr : Int) (w : World) (t u tat now n t3 x3 l3 : Nat)
    (HA : Hid (∀ w, Calls Try.prog 17 #[] w (ValEnd w (.bool true))))
    (HC : Hid (∀ w, Calls Try.prog 26 #[.agg #[.int .i64 T, .int .i64 Tau], .int .i64 x, .int .i64 y, .int .i64 z] w (ValEnd w (.tuple #[.agg #[.int .i64 (t : Int), .int .i64 (u : Int)], .int .i64 (tat : Int), .int .i64 (now : Int), .int .i64 (n : Int)]))))
    (HI : Hid (∀ w, Calls Try.prog 21 #[.int .i64 (tat : Int), .int .i64 (now : Int)] w (ValEnd w (.tuple #[.bool false, .int .i64 0]))))
    (HD3 : Hid (∀ w, Calls Try.prog 15 #[.agg #[.int .i64 (t : Int), .int .i64 (u : Int)], .int .i64 (tat : Int), .int .i64 (now : Int), .int .i64 (n : Int)] w (ValEnd w (.tuple #[.agg #[.bool true, .int .i64 (t3 : Int), .int .i64 (x3 : Int), .int .i64 (l3 : Int)], .int .i64 0]))))
    (hle : decide ((tat : Int) ≤ (now : Int)) = false)
    (hle2 : ¬ tat ≤ now)
    (hn : n = 0) :
    Calls Try.prog 8 #[.agg #[.int .i64 T, .int .i64 Tau], .int .i64 x, .int .i64 y, .int .i64 z, .int .u16 mr] w (ValEnd w (.bool true)) := by
  have hz : ((n : Int) == 0) = true := by simp; omega
  have hz2 : decide (0 < (n : Int)) = false := by simp; omega
  clear hn
  go_enter Try.func8, Try.ntmps8
  go_wp2_with fail
  with_reducible refine (HA.out _).mono ?_
  rintro e w1 ⟨rfl, hb⟩
  have Kl := (BlkL.new _ [.int .i64 T, .int .i64 Tau] 23).below hb
  try simp only [World.size_alloc] at Kl
  have HB1 := Lib.hid (((Below.refl w.heap.size w).alloc (by simp <;> omega) _).trans (hb.mono (by simp <;> omega)))
  clear hb
  have cl0 := Kl.cell 0 _ rfl
  have fl0 := Kl.froz 0 (by simp)
  have cl1 := Kl.cell 1 _ rfl
  have fl1 := Kl.froz 1 (by simp)
  have zl := Kl.lt
  have HKl1 := Lib.hid Kl
  clear Kl
  go_wp2_with fail
  with_reducible refine (HC.out _).mono ?_
  rintro e w2 ⟨rfl, hb⟩
  have Kl := HKl1.out.below hb
  have HB2 := Lib.hid (HB1.out.trans (hb.mono (by have := HB1.out.size; simp <;> omega)))
  clear hb cl0 fl0 cl1 fl1 zl
  have cl0 := Kl.cell 0 _ rfl
  have fl0 := Kl.froz 0 (by simp)
  have cl1 := Kl.cell 1 _ rfl
  have fl1 := Kl.froz 1 (by simp)
  have zl := Kl.lt
  have HKl2 := Lib.hid Kl
  clear Kl
  go_wp2_with fail
  with_reducible refine (HI.out _).mono ?_
  rintro e w3 ⟨rfl, hb⟩
  have Kl := ((HKl2.out.set 0 (.int .i64 (t : Int)) (by simp)).set 1 (.int .i64 (u : Int)) (by simp)).below hb
  simp only [List.set_cons_zero, List.set_cons_succ] at Kl
  have HB3 := Lib.hid (((HB2.out.setCell (p := ⟨w.heap.size, 0, none⟩) (by show w.heap.size ≤ w.heap.size; omega) (.int .i64 (t : Int))).setCell (p := ⟨w.heap.size, 1, none⟩) (by show w.heap.size ≤ w.heap.size; omega) (.int .i64 (u : Int))).trans (hb.mono (by have := HB2.out.size; simp <;> omega)))
  clear hb cl0 fl0 cl1 fl1 zl
  have cl0 := Kl.cell 0 _ rfl
  have cl1 := Kl.cell 1 _ rfl
  have zl := Kl.lt
  have HKl3 := Lib.hid Kl
  clear Kl
  go_wp2_with fail
  with_reducible refine (HD3.out _).mono ?_
  rintro e w4 ⟨rfl, hb⟩
  have Kl := HKl3.out.below hb
  have HB4 := Lib.hid (HB3.out.trans (hb.mono (by have := HB3.out.size; simp <;> omega)))
  clear hb cl0 cl1 zl
  have HKl4 := Lib.hid Kl
  clear Kl
  go_wp2
  go_ret
  exact ⟨rfl, HB4.out.alloc HB4.out.size _⟩


set_option maxHeartbeats 3200000 in
theorem gcraIdle_a0 (T Tau x y z mr : Int) (w : World) (t u tat now n more later tl x1 l1 t2 t3 x3 l3 : Nat)
    (HA : Hid (∀ w, Calls Try.prog 17 #[] w (ValEnd w (.bool true))))
    (HC : Hid (∀ w, Calls Try.prog 26 #[.agg #[.int .i64 T, .int .i64 Tau], .int .i64 x, .int .i64 y, .int .i64 z] w (ValEnd w (.tuple #[.agg #[.int .i64 (t : Int), .int .i64 (u : Int)], .int .i64 (tat : Int), .int .i64 (now : Int), .int .i64 (n : Int)]))))
    (HI : Hid (∀ w, Calls Try.prog 21 #[.int .i64 (tat : Int), .int .i64 (now : Int)] w (ValEnd w (.tuple #[.bool true, .int .i64 0]))))
    (hm : (more : Int) ≤ 65535)
    (HAdd : Hid (∀ w, Calls Try.prog 31 #[.int .i64 (now : Int), .int .i64 (more : Int)] w (ValEnd w (.int .i64 (later : Int)))))
    (HD1 : Hid (∀ w, Calls Try.prog 15 #[.agg #[.int .i64 (t : Int), .int .i64 (u : Int)], .int .i64 (tat : Int), .int .i64 (later : Int), .int .i64 (n : Int)] w (ValEnd w (.tuple #[.agg #[.bool false, .int .i64 (tl : Int), .int .i64 (x1 : Int), .int .i64 (l1 : Int)], .int .i64 0]))))
    (HD2 : Hid (∀ w, Calls Try.prog 15 #[.agg #[.int .i64 (t : Int), .int .i64 (u : Int)], .int .i64 0, .int .i64 (later : Int), .int .i64 (n : Int)] w (ValEnd w (.tuple #[.agg #[.bool false, .int .i64 (t2 : Int), .int .i64 (x1 : Int), .int .i64 (l1 : Int)], .int .i64 0]))))
    (HD3 : Hid (∀ w, Calls Try.prog 15 #[.agg #[.int .i64 (t : Int), .int .i64 (u : Int)], .int .i64 (tat : Int), .int .i64 (now : Int), .int .i64 (n : Int)] w (ValEnd w (.tuple #[.agg #[.bool false, .int .i64 (t3 : Int), .int .i64 (x3 : Int), .int .i64 (l3 : Int)], .int .i64 0]))))
    (hle : decide ((tat : Int) ≤ (now : Int)) = true)
    (hle2 : tat ≤ now)
    (hn : 0 < n) :
    Calls Try.prog 8 #[.agg #[.int .i64 T, .int .i64 Tau], .int .i64 x, .int .i64 y, .int .i64 z, .int .u16 (more : Int)] w (ValEnd w (.bool true)) := by
  have hz : ((n : Int) == 0) = false := by simp; omega
  have hz2 : decide (0 < (n : Int)) = true := by simp; omega
  go_enter Try.func8, Try.ntmps8
  go_wp2_with fail
  with_reducible refine (HA.out _).mono ?_
  rintro e w1 ⟨rfl, hb⟩
  have Kl := (BlkL.new _ [.int .i64 T, .int .i64 Tau] 23).below hb
  try simp only [World.size_alloc] at Kl
  have HB1 := Lib.hid (((Below.refl w.heap.size w).alloc (by simp <;> omega) _).trans (hb.mono (by simp <;> omega)))
  clear hb
  have cl0 := Kl.cell 0 _ rfl
  have fl0 := Kl.froz 0 (by simp)
  have cl1 := Kl.cell 1 _ rfl
  have fl1 := Kl.froz 1 (by simp)
  have zl := Kl.lt
  have HKl1 := Lib.hid Kl
  clear Kl
  go_wp2_with fail
  with_reducible refine (HC.out _).mono ?_
  rintro e w2 ⟨rfl, hb⟩
  have Kl := HKl1.out.below hb
  have HB2 := Lib.hid (HB1.out.trans (hb.mono (by have := HB1.out.size; simp <;> omega)))
  clear hb cl0 fl0 cl1 fl1 zl
  have cl0 := Kl.cell 0 _ rfl
  have fl0 := Kl.froz 0 (by simp)
  have cl1 := Kl.cell 1 _ rfl
  have fl1 := Kl.froz 1 (by simp)
  have zl := Kl.lt
  have HKl2 := Lib.hid Kl
  clear Kl
  go_wp2_with fail
  with_reducible refine (HI.out _).mono ?_
  rintro e w3 ⟨rfl, hb⟩
  have Kl := ((HKl2.out.set 0 (.int .i64 (t : Int)) (by simp)).set 1 (.int .i64 (u : Int)) (by simp)).below hb
  simp only [List.set_cons_zero, List.set_cons_succ] at Kl
  have HB3 := Lib.hid (((HB2.out.setCell (p := ⟨w.heap.size, 0, none⟩) (by show w.heap.size ≤ w.heap.size; omega) (.int .i64 (t : Int))).setCell (p := ⟨w.heap.size, 1, none⟩) (by show w.heap.size ≤ w.heap.size; omega) (.int .i64 (u : Int))).trans (hb.mono (by have := HB2.out.size; simp <;> omega)))
  clear hb cl0 fl0 cl1 fl1 zl
  have cl0 := Kl.cell 0 _ rfl
  have cl1 := Kl.cell 1 _ rfl
  have zl := Kl.lt
  have HKl3 := Lib.hid Kl
  clear Kl
  go_wp2_with fail
  with_reducible refine (HAdd.out _).mono ?_
  rintro e w4 ⟨rfl, hb⟩
  have Kl := HKl3.out.below hb
  have HB4 := Lib.hid (HB3.out.trans (hb.mono (by have := HB3.out.size; simp <;> omega)))
  clear hb cl0 cl1 zl
  have cl0 := Kl.cell 0 _ rfl
  have cl1 := Kl.cell 1 _ rfl
  have zl := Kl.lt
  have HKl4 := Lib.hid Kl
  clear Kl
  go_wp2_with fail
  with_reducible refine (HD1.out _).mono ?_
  rintro e w5 ⟨rfl, hb⟩
  have Kl := HKl4.out.below hb
  have HB5 := Lib.hid (HB4.out.trans (hb.mono (by have := HB4.out.size; simp <;> omega)))
  clear hb cl0 cl1 zl
  have cl0 := Kl.cell 0 _ rfl
  have cl1 := Kl.cell 1 _ rfl
  have zl := Kl.lt
  have HKl5 := Lib.hid Kl
  clear Kl
  go_wp2_with fail
  with_reducible refine (HD2.out _).mono ?_
  rintro e w6 ⟨rfl, hb⟩
  have Kl := (HKl5.out.alloc _).below hb
  have Ka := (BlkL.new _ [.bool false, .int .i64 (tl : Int), .int .i64 (x1 : Int), .int .i64 (l1 : Int)] 25).below hb
  try simp only [World.size_alloc] at Ka
  have HB6 := Lib.hid ((HB5.out.alloc (by have := HB5.out.size; simp; omega) _).trans (hb.mono (by have := HB5.out.size; simp <;> omega)))
  clear hb cl0 cl1 zl
  have cl0 := Kl.cell 0 _ rfl
  have cl1 := Kl.cell 1 _ rfl
  have zl := Kl.lt
  have ca0 := Ka.cell 0 _ rfl
  have ca1 := Ka.cell 1 _ rfl
  have ca2 := Ka.cell 2 _ rfl
  have ca3 := Ka.cell 3 _ rfl
  have za := Ka.lt
  have HKl6 := Lib.hid Kl
  have HKa6 := Lib.hid Ka
  clear Kl Ka
  go_wp2_with fail
  with_reducible refine (HD3.out _).mono ?_
  rintro e w7 ⟨rfl, hb⟩
  have Kl := (HKl6.out.alloc _).below hb
  have Ka := (HKa6.out.alloc _).below hb
  have Kb := (BlkL.new _ [.bool false, .int .i64 (t2 : Int), .int .i64 (x1 : Int), .int .i64 (l1 : Int)] 25).below hb
  try simp only [World.size_alloc] at Kb
  have HB7 := Lib.hid ((HB6.out.alloc (by have := HB6.out.size; simp; omega) _).trans (hb.mono (by have := HB6.out.size; simp <;> omega)))
  clear hb cl0 cl1 zl ca0 ca1 ca2 ca3 za
  have HKl7 := Lib.hid Kl
  have HKa7 := Lib.hid Ka
  have HKb7 := Lib.hid Kb
  clear Kl Ka Kb
  go_wp2
  go_ret
  exact ⟨rfl, HB7.out.alloc HB7.out.size _⟩


set_option maxHeartbeats 3200000 in
theorem gcraIdle_a1 (T Tau x y z mr : Int) (w : World) (t u tat now n more later tl x1 l1 t2 t3 x3 l3 : Nat)
    (HA : Hid (∀ w, Calls Try.prog 17 #[] w (ValEnd w (.bool true))))
    (HC : Hid (∀ w, Calls Try.prog 26 #[.agg #[.int .i64 T, .int .i64 Tau], .int .i64 x, .int .i64 y, .int .i64 z] w (ValEnd w (.tuple #[.agg #[.int .i64 (t : Int), .int .i64 (u : Int)], .int .i64 (tat : Int), .int .i64 (now : Int), .int .i64 (n : Int)]))))
    (HI : Hid (∀ w, Calls Try.prog 21 #[.int .i64 (tat : Int), .int .i64 (now : Int)] w (ValEnd w (.tuple #[.bool true, .int .i64 0]))))
    (hm : (more : Int) ≤ 65535)
    (HAdd : Hid (∀ w, Calls Try.prog 31 #[.int .i64 (now : Int), .int .i64 (more : Int)] w (ValEnd w (.int .i64 (later : Int)))))
    (HD1 : Hid (∀ w, Calls Try.prog 15 #[.agg #[.int .i64 (t : Int), .int .i64 (u : Int)], .int .i64 (tat : Int), .int .i64 (later : Int), .int .i64 (n : Int)] w (ValEnd w (.tuple #[.agg #[.bool false, .int .i64 (tl : Int), .int .i64 (x1 : Int), .int .i64 (l1 : Int)], .int .i64 0]))))
    (HD2 : Hid (∀ w, Calls Try.prog 15 #[.agg #[.int .i64 (t : Int), .int .i64 (u : Int)], .int .i64 0, .int .i64 (later : Int), .int .i64 (n : Int)] w (ValEnd w (.tuple #[.agg #[.bool false, .int .i64 (t2 : Int), .int .i64 (x1 : Int), .int .i64 (l1 : Int)], .int .i64 0]))))
    (HD3 : Hid (∀ w, Calls Try.prog 15 #[.agg #[.int .i64 (t : Int), .int .i64 (u : Int)], .int .i64 (tat : Int), .int .i64 (now : Int), .int .i64 (n : Int)] w (ValEnd w (.tuple #[.agg #[.bool true, .int .i64 (t3 : Int), .int .i64 (x3 : Int), .int .i64 (l3 : Int)], .int .i64 0]))))
    (HI1 : Hid (∀ w, Calls Try.prog 21 #[.int .i64 (t3 : Int), .int .i64 (t3 : Int)] w (ValEnd w (.tuple #[.bool true, .int .i64 0]))))
    (HI2 : Hid (∀ w, Calls Try.prog 21 #[.int .i64 (t3 : Int), .int .i64 ((t3 : Int) - 1)] w (ValEnd w (.tuple #[.bool false, .int .i64 0]))))
    (ht3 : (1 : Int) ≤ (t3 : Int))
    (ht32 : (t3 : Int) ≤ 4611686018427387903)
    (hle : decide ((tat : Int) ≤ (now : Int)) = true)
    (hle2 : tat ≤ now)
    (hn : 0 < n) :
    Calls Try.prog 8 #[.agg #[.int .i64 T, .int .i64 Tau], .int .i64 x, .int .i64 y, .int .i64 z, .int .u16 (more : Int)] w (ValEnd w (.bool true)) := by
  have hz : ((n : Int) == 0) = false := by simp; omega
  have hz2 : decide (0 < (n : Int)) = true := by simp; omega
  go_enter Try.func8, Try.ntmps8
  go_wp2_with fail
  with_reducible refine (HA.out _).mono ?_
  rintro e w1 ⟨rfl, hb⟩
  have Kl := (BlkL.new _ [.int .i64 T, .int .i64 Tau] 23).below hb
  try simp only [World.size_alloc] at Kl
  have HB1 := Lib.hid (((Below.refl w.heap.size w).alloc (by simp <;> omega) _).trans (hb.mono (by simp <;> omega)))
  clear hb
  have cl0 := Kl.cell 0 _ rfl
  have fl0 := Kl.froz 0 (by simp)
  have cl1 := Kl.cell 1 _ rfl
  have fl1 := Kl.froz 1 (by simp)
  have zl := Kl.lt
  have HKl1 := Lib.hid Kl
  clear Kl
  go_wp2_with fail
  with_reducible refine (HC.out _).mono ?_
  rintro e w2 ⟨rfl, hb⟩
  have Kl := HKl1.out.below hb
  have HB2 := Lib.hid (HB1.out.trans (hb.mono (by have := HB1.out.size; simp <;> omega)))
  clear hb cl0 fl0 cl1 fl1 zl
  have cl0 := Kl.cell 0 _ rfl
  have fl0 := Kl.froz 0 (by simp)
  have cl1 := Kl.cell 1 _ rfl
  have fl1 := Kl.froz 1 (by simp)
  have zl := Kl.lt
  have HKl2 := Lib.hid Kl
  clear Kl
  go_wp2_with fail
  with_reducible refine (HI.out _).mono ?_
  rintro e w3 ⟨rfl, hb⟩
  have Kl := ((HKl2.out.set 0 (.int .i64 (t : Int)) (by simp)).set 1 (.int .i64 (u : Int)) (by simp)).below hb
  simp only [List.set_cons_zero, List.set_cons_succ] at Kl
  have HB3 := Lib.hid (((HB2.out.setCell (p := ⟨w.heap.size, 0, none⟩) (by show w.heap.size ≤ w.heap.size; omega) (.int .i64 (t : Int))).setCell (p := ⟨w.heap.size, 1, none⟩) (by show w.heap.size ≤ w.heap.size; omega) (.int .i64 (u : Int))).trans (hb.mono (by have := HB2.out.size; simp <;> omega)))
  clear hb cl0 fl0 cl1 fl1 zl
  have cl0 := Kl.cell 0 _ rfl
  have cl1 := Kl.cell 1 _ rfl
  have zl := Kl.lt
  have HKl3 := Lib.hid Kl
  clear Kl
  go_wp2_with fail
  with_reducible refine (HAdd.out _).mono ?_
  rintro e w4 ⟨rfl, hb⟩
  have Kl := HKl3.out.below hb
  have HB4 := Lib.hid (HB3.out.trans (hb.mono (by have := HB3.out.size; simp <;> omega)))
  clear hb cl0 cl1 zl
  have cl0 := Kl.cell 0 _ rfl
  have cl1 := Kl.cell 1 _ rfl
  have zl := Kl.lt
  have HKl4 := Lib.hid Kl
  clear Kl
  go_wp2_with fail
  with_reducible refine (HD1.out _).mono ?_
  rintro e w5 ⟨rfl, hb⟩
  have Kl := HKl4.out.below hb
  have HB5 := Lib.hid (HB4.out.trans (hb.mono (by have := HB4.out.size; simp <;> omega)))
  clear hb cl0 cl1 zl
  have cl0 := Kl.cell 0 _ rfl
  have cl1 := Kl.cell 1 _ rfl
  have zl := Kl.lt
  have HKl5 := Lib.hid Kl
  clear Kl
  go_wp2_with fail
  with_reducible refine (HD2.out _).mono ?_
  rintro e w6 ⟨rfl, hb⟩
  have Kl := (HKl5.out.alloc _).below hb
  have Ka := (BlkL.new _ [.bool false, .int .i64 (tl : Int), .int .i64 (x1 : Int), .int .i64 (l1 : Int)] 25).below hb
  try simp only [World.size_alloc] at Ka
  have HB6 := Lib.hid ((HB5.out.alloc (by have := HB5.out.size; simp; omega) _).trans (hb.mono (by have := HB5.out.size; simp <;> omega)))
  clear hb cl0 cl1 zl
  have cl0 := Kl.cell 0 _ rfl
  have cl1 := Kl.cell 1 _ rfl
  have zl := Kl.lt
  have ca0 := Ka.cell 0 _ rfl
  have ca1 := Ka.cell 1 _ rfl
  have ca2 := Ka.cell 2 _ rfl
  have ca3 := Ka.cell 3 _ rfl
  have za := Ka.lt
  have HKl6 := Lib.hid Kl
  have HKa6 := Lib.hid Ka
  clear Kl Ka
  go_wp2_with fail
  with_reducible refine (HD3.out _).mono ?_
  rintro e w7 ⟨rfl, hb⟩
  have Kl := (HKl6.out.alloc _).below hb
  have Ka := (HKa6.out.alloc _).below hb
  have Kb := (BlkL.new _ [.bool false, .int .i64 (t2 : Int), .int .i64 (x1 : Int), .int .i64 (l1 : Int)] 25).below hb
  try simp only [World.size_alloc] at Kb
  have HB7 := Lib.hid ((HB6.out.alloc (by have := HB6.out.size; simp; omega) _).trans (hb.mono (by have := HB6.out.size; simp <;> omega)))
  clear hb cl0 cl1 zl ca0 ca1 ca2 ca3 za
  have HKl7 := Lib.hid Kl
  have HKa7 := Lib.hid Ka
  have HKb7 := Lib.hid Kb
  clear Kl Ka Kb
  go_wp2_with fail
  with_reducible refine (HI1.out _).mono ?_
  rintro e w8 ⟨rfl, hb⟩
  have Kl := (HKl7.out.alloc _).below hb
  have Ka := (HKa7.out.alloc _).below hb
  have Kb := (HKb7.out.alloc _).below hb
  have Kc := (BlkL.new _ [.bool true, .int .i64 (t3 : Int), .int .i64 (x3 : Int), .int .i64 (l3 : Int)] 25).below hb
  try simp only [World.size_alloc] at Kc
  have HB8 := Lib.hid ((HB7.out.alloc (by have := HB7.out.size; simp; omega) _).trans (hb.mono (by have := HB7.out.size; simp <;> omega)))
  clear hb
  have cc0 := Kc.cell 0 _ rfl
  have cc1 := Kc.cell 1 _ rfl
  have cc2 := Kc.cell 2 _ rfl
  have cc3 := Kc.cell 3 _ rfl
  have zc := Kc.lt
  have HKl8 := Lib.hid Kl
  have HKa8 := Lib.hid Ka
  have HKb8 := Lib.hid Kb
  have HKc8 := Lib.hid Kc
  clear Kl Ka Kb Kc
  go_wp2_with fail
  with_reducible refine (HI2.out _).mono ?_
  rintro e w9 ⟨rfl, hb⟩
  have Kl := HKl8.out.below hb
  have Ka := HKa8.out.below hb
  have Kb := HKb8.out.below hb
  have Kc := HKc8.out.below hb
  have HB9 := Lib.hid (HB8.out.trans (hb.mono (by have := HB8.out.size; simp <;> omega)))
  clear hb cc0 cc1 cc2 cc3 zc
  have HKl9 := Lib.hid Kl
  have HKa9 := Lib.hid Ka
  have HKb9 := Lib.hid Kb
  have HKc9 := Lib.hid Kc
  clear Kl Ka Kb Kc
  go_wp2
  go_ret
  exact ⟨rfl, HB9.out⟩


set_option maxHeartbeats 3200000 in
theorem gcraIdle_a2 (T Tau x y z mr : Int) (w : World) (t u tat now n more later tl x1 l1 t2 t3 x3 l3 : Nat)
    (HA : Hid (∀ w, Calls Try.prog 17 #[] w (ValEnd w (.bool true))))
    (HC : Hid (∀ w, Calls Try.prog 26 #[.agg #[.int .i64 T, .int .i64 Tau], .int .i64 x, .int .i64 y, .int .i64 z] w (ValEnd w (.tuple #[.agg #[.int .i64 (t : Int), .int .i64 (u : Int)], .int .i64 (tat : Int), .int .i64 (now : Int), .int .i64 (n : Int)]))))
    (HI : Hid (∀ w, Calls Try.prog 21 #[.int .i64 (tat : Int), .int .i64 (now : Int)] w (ValEnd w (.tuple #[.bool true, .int .i64 0]))))
    (hm : (more : Int) ≤ 65535)
    (HAdd : Hid (∀ w, Calls Try.prog 31 #[.int .i64 (now : Int), .int .i64 (more : Int)] w (ValEnd w (.int .i64 (later : Int)))))
    (HD1 : Hid (∀ w, Calls Try.prog 15 #[.agg #[.int .i64 (t : Int), .int .i64 (u : Int)], .int .i64 (tat : Int), .int .i64 (later : Int), .int .i64 (n : Int)] w (ValEnd w (.tuple #[.agg #[.bool true, .int .i64 (tl : Int), .int .i64 (x1 : Int), .int .i64 (l1 : Int)], .int .i64 0]))))
    (HD2 : Hid (∀ w, Calls Try.prog 15 #[.agg #[.int .i64 (t : Int), .int .i64 (u : Int)], .int .i64 0, .int .i64 (later : Int), .int .i64 (n : Int)] w (ValEnd w (.tuple #[.agg #[.bool true, .int .i64 (tl : Int), .int .i64 (x1 : Int), .int .i64 (l1 : Int)], .int .i64 0]))))
    (HD3 : Hid (∀ w, Calls Try.prog 15 #[.agg #[.int .i64 (t : Int), .int .i64 (u : Int)], .int .i64 (tat : Int), .int .i64 (now : Int), .int .i64 (n : Int)] w (ValEnd w (.tuple #[.agg #[.bool false, .int .i64 (t3 : Int), .int .i64 (x3 : Int), .int .i64 (l3 : Int)], .int .i64 0]))))
    (hle : decide ((tat : Int) ≤ (now : Int)) = true)
    (hle2 : tat ≤ now)
    (hn : 0 < n) :
    Calls Try.prog 8 #[.agg #[.int .i64 T, .int .i64 Tau], .int .i64 x, .int .i64 y, .int .i64 z, .int .u16 (more : Int)] w (ValEnd w (.bool true)) := by
  have hz : ((n : Int) == 0) = false := by simp; omega
  have hz2 : decide (0 < (n : Int)) = true := by simp; omega
  go_enter Try.func8, Try.ntmps8
  go_wp2_with fail
  with_reducible refine (HA.out _).mono ?_
  rintro e w1 ⟨rfl, hb⟩
  have Kl := (BlkL.new _ [.int .i64 T, .int .i64 Tau] 23).below hb
  try simp only [World.size_alloc] at Kl
  have HB1 := Lib.hid (((Below.refl w.heap.size w).alloc (by simp <;> omega) _).trans (hb.mono (by simp <;> omega)))
  clear hb
  have cl0 := Kl.cell 0 _ rfl
  have fl0 := Kl.froz 0 (by simp)
  have cl1 := Kl.cell 1 _ rfl
  have fl1 := Kl.froz 1 (by simp)
  have zl := Kl.lt
  have HKl1 := Lib.hid Kl
  clear Kl
  go_wp2_with fail
  with_reducible refine (HC.out _).mono ?_
  rintro e w2 ⟨rfl, hb⟩
  have Kl := HKl1.out.below hb
  have HB2 := Lib.hid (HB1.out.trans (hb.mono (by have := HB1.out.size; simp <;> omega)))
  clear hb cl0 fl0 cl1 fl1 zl
  have cl0 := Kl.cell 0 _ rfl
  have fl0 := Kl.froz 0 (by simp)
  have cl1 := Kl.cell 1 _ rfl
  have fl1 := Kl.froz 1 (by simp)
  have zl := Kl.lt
  have HKl2 := Lib.hid Kl
  clear Kl
  go_wp2_with fail
  with_reducible refine (HI.out _).mono ?_
  rintro e w3 ⟨rfl, hb⟩
  have Kl := ((HKl2.out.set 0 (.int .i64 (t : Int)) (by simp)).set 1 (.int .i64 (u : Int)) (by simp)).below hb
  simp only [List.set_cons_zero, List.set_cons_succ] at Kl
  have HB3 := Lib.hid (((HB2.out.setCell (p := ⟨w.heap.size, 0, none⟩) (by show w.heap.size ≤ w.heap.size; omega) (.int .i64 (t : Int))).setCell (p := ⟨w.heap.size, 1, none⟩) (by show w.heap.size ≤ w.heap.size; omega) (.int .i64 (u : Int))).trans (hb.mono (by have := HB2.out.size; simp <;> omega)))
  clear hb cl0 fl0 cl1 fl1 zl
  have cl0 := Kl.cell 0 _ rfl
  have cl1 := Kl.cell 1 _ rfl
  have zl := Kl.lt
  have HKl3 := Lib.hid Kl
  clear Kl
  go_wp2_with fail
  with_reducible refine (HAdd.out _).mono ?_
  rintro e w4 ⟨rfl, hb⟩
  have Kl := HKl3.out.below hb
  have HB4 := Lib.hid (HB3.out.trans (hb.mono (by have := HB3.out.size; simp <;> omega)))
  clear hb cl0 cl1 zl
  have cl0 := Kl.cell 0 _ rfl
  have cl1 := Kl.cell 1 _ rfl
  have zl := Kl.lt
  have HKl4 := Lib.hid Kl
  clear Kl
  go_wp2_with fail
  with_reducible refine (HD1.out _).mono ?_
  rintro e w5 ⟨rfl, hb⟩
  have Kl := HKl4.out.below hb
  have HB5 := Lib.hid (HB4.out.trans (hb.mono (by have := HB4.out.size; simp <;> omega)))
  clear hb cl0 cl1 zl
  have cl0 := Kl.cell 0 _ rfl
  have cl1 := Kl.cell 1 _ rfl
  have zl := Kl.lt
  have HKl5 := Lib.hid Kl
  clear Kl
  go_wp2_with fail
  with_reducible refine (HD2.out _).mono ?_
  rintro e w6 ⟨rfl, hb⟩
  have Kl := (HKl5.out.alloc _).below hb
  have Ka := (BlkL.new _ [.bool true, .int .i64 (tl : Int), .int .i64 (x1 : Int), .int .i64 (l1 : Int)] 25).below hb
  try simp only [World.size_alloc] at Ka
  have HB6 := Lib.hid ((HB5.out.alloc (by have := HB5.out.size; simp; omega) _).trans (hb.mono (by have := HB5.out.size; simp <;> omega)))
  clear hb cl0 cl1 zl
  have cl0 := Kl.cell 0 _ rfl
  have cl1 := Kl.cell 1 _ rfl
  have zl := Kl.lt
  have ca0 := Ka.cell 0 _ rfl
  have ca1 := Ka.cell 1 _ rfl
  have ca2 := Ka.cell 2 _ rfl
  have ca3 := Ka.cell 3 _ rfl
  have za := Ka.lt
  have HKl6 := Lib.hid Kl
  have HKa6 := Lib.hid Ka
  clear Kl Ka
  go_wp2_with fail
  with_reducible refine (HD3.out _).mono ?_
  rintro e w7 ⟨rfl, hb⟩
  have Kl := (HKl6.out.alloc _).below hb
  have Ka := (HKa6.out.alloc _).below hb
  have Kb := (BlkL.new _ [.bool true, .int .i64 (tl : Int), .int .i64 (x1 : Int), .int .i64 (l1 : Int)] 25).below hb
  try simp only [World.size_alloc] at Kb
  have HB7 := Lib.hid ((HB6.out.alloc (by have := HB6.out.size; simp; omega) _).trans (hb.mono (by have := HB6.out.size; simp <;> omega)))
  clear hb cl0 cl1 zl ca0 ca1 ca2 ca3 za
  have HKl7 := Lib.hid Kl
  have HKa7 := Lib.hid Ka
  have HKb7 := Lib.hid Kb
  clear Kl Ka Kb
  go_wp2
  go_ret
  exact ⟨rfl, HB7.out.alloc HB7.out.size _⟩


set_option maxHeartbeats 3200000 in
theorem gcraIdle_a3 (T Tau x y z mr : Int) (w : World) (t u tat now n more later tl x1 l1 t2 t3 x3 l3 : Nat)
    (HA : Hid (∀ w, Calls Try.prog 17 #[] w (ValEnd w (.bool true))))
    (HC : Hid (∀ w, Calls Try.prog 26 #[.agg #[.int .i64 T, .int .i64 Tau], .int .i64 x, .int .i64 y, .int .i64 z] w (ValEnd w (.tuple #[.agg #[.int .i64 (t : Int), .int .i64 (u : Int)], .int .i64 (tat : Int), .int .i64 (now : Int), .int .i64 (n : Int)]))))
    (HI : Hid (∀ w, Calls Try.prog 21 #[.int .i64 (tat : Int), .int .i64 (now : Int)] w (ValEnd w (.tuple #[.bool true, .int .i64 0]))))
    (hm : (more : Int) ≤ 65535)
    (HAdd : Hid (∀ w, Calls Try.prog 31 #[.int .i64 (now : Int), .int .i64 (more : Int)] w (ValEnd w (.int .i64 (later : Int)))))
    (HD1 : Hid (∀ w, Calls Try.prog 15 #[.agg #[.int .i64 (t : Int), .int .i64 (u : Int)], .int .i64 (tat : Int), .int .i64 (later : Int), .int .i64 (n : Int)] w (ValEnd w (.tuple #[.agg #[.bool true, .int .i64 (tl : Int), .int .i64 (x1 : Int), .int .i64 (l1 : Int)], .int .i64 0]))))
    (HD2 : Hid (∀ w, Calls Try.prog 15 #[.agg #[.int .i64 (t : Int), .int .i64 (u : Int)], .int .i64 0, .int .i64 (later : Int), .int .i64 (n : Int)] w (ValEnd w (.tuple #[.agg #[.bool true, .int .i64 (tl : Int), .int .i64 (x1 : Int), .int .i64 (l1 : Int)], .int .i64 0]))))
    (HD3 : Hid (∀ w, Calls Try.prog 15 #[.agg #[.int .i64 (t : Int), .int .i64 (u : Int)], .int .i64 (tat : Int), .int .i64 (now : Int), .int .i64 (n : Int)] w (ValEnd w (.tuple #[.agg #[.bool true, .int .i64 (t3 : Int), .int .i64 (x3 : Int), .int .i64 (l3 : Int)], .int .i64 0]))))
    (HI1 : Hid (∀ w, Calls Try.prog 21 #[.int .i64 (t3 : Int), .int .i64 (t3 : Int)] w (ValEnd w (.tuple #[.bool true, .int .i64 0]))))
    (HI2 : Hid (∀ w, Calls Try.prog 21 #[.int .i64 (t3 : Int), .int .i64 ((t3 : Int) - 1)] w (ValEnd w (.tuple #[.bool false, .int .i64 0]))))
    (ht3 : (1 : Int) ≤ (t3 : Int))
    (ht32 : (t3 : Int) ≤ 4611686018427387903)
    (hle : decide ((tat : Int) ≤ (now : Int)) = true)
    (hle2 : tat ≤ now)
    (hn : 0 < n) :
    Calls Try.prog 8 #[.agg #[.int .i64 T, .int .i64 Tau], .int .i64 x, .int .i64 y, .int .i64 z, .int .u16 (more : Int)] w (ValEnd w (.bool true)) := by
  have hz : ((n : Int) == 0) = false := by simp; omega
  have hz2 : decide (0 < (n : Int)) = true := by simp; omega
  go_enter Try.func8, Try.ntmps8
  go_wp2_with fail
  with_reducible refine (HA.out _).mono ?_
  rintro e w1 ⟨rfl, hb⟩
  have Kl := (BlkL.new _ [.int .i64 T, .int .i64 Tau] 23).below hb
  try simp only [World.size_alloc] at Kl
  have HB1 := Lib.hid (((Below.refl w.heap.size w).alloc (by simp <;> omega) _).trans (hb.mono (by simp <;> omega)))
  clear hb
  have cl0 := Kl.cell 0 _ rfl
  have fl0 := Kl.froz 0 (by simp)
  have cl1 := Kl.cell 1 _ rfl
  have fl1 := Kl.froz 1 (by simp)
  have zl := Kl.lt
  have HKl1 := Lib.hid Kl
  clear Kl
  go_wp2_with fail
  with_reducible refine (HC.out _).mono ?_
  rintro e w2 ⟨rfl, hb⟩
  have Kl := HKl1.out.below hb
  have HB2 := Lib.hid (HB1.out.trans (hb.mono (by have := HB1.out.size; simp <;> omega)))
  clear hb cl0 fl0 cl1 fl1 zl
  have cl0 := Kl.cell 0 _ rfl
  have fl0 := Kl.froz 0 (by simp)
  have cl1 := Kl.cell 1 _ rfl
  have fl1 := Kl.froz 1 (by simp)
  have zl := Kl.lt
  have HKl2 := Lib.hid Kl
  clear Kl
  go_wp2_with fail
  with_reducible refine (HI.out _).mono ?_
  rintro e w3 ⟨rfl, hb⟩
  have Kl := ((HKl2.out.set 0 (.int .i64 (t : Int)) (by simp)).set 1 (.int .i64 (u : Int)) (by simp)).below hb
  simp only [List.set_cons_zero, List.set_cons_succ] at Kl
  have HB3 := Lib.hid (((HB2.out.setCell (p := ⟨w.heap.size, 0, none⟩) (by show w.heap.size ≤ w.heap.size; omega) (.int .i64 (t : Int))).setCell (p := ⟨w.heap.size, 1, none⟩) (by show w.heap.size ≤ w.heap.size; omega) (.int .i64 (u : Int))).trans (hb.mono (by have := HB2.out.size; simp <;> omega)))
  clear hb cl0 fl0 cl1 fl1 zl
  have cl0 := Kl.cell 0 _ rfl
  have cl1 := Kl.cell 1 _ rfl
  have zl := Kl.lt
  have HKl3 := Lib.hid Kl
  clear Kl
  go_wp2_with fail
  with_reducible refine (HAdd.out _).mono ?_
  rintro e w4 ⟨rfl, hb⟩
  have Kl := HKl3.out.below hb
  have HB4 := Lib.hid (HB3.out.trans (hb.mono (by have := HB3.out.size; simp <;> omega)))
  clear hb cl0 cl1 zl
  have cl0 := Kl.cell 0 _ rfl
  have cl1 := Kl.cell 1 _ rfl
  have zl := Kl.lt
  have HKl4 := Lib.hid Kl
  clear Kl
  go_wp2_with fail
  with_reducible refine (HD1.out _).mono ?_
  rintro e w5 ⟨rfl, hb⟩
  have Kl := HKl4.out.below hb
  have HB5 := Lib.hid (HB4.out.trans (hb.mono (by have := HB4.out.size; simp <;> omega)))
  clear hb cl0 cl1 zl
  have cl0 := Kl.cell 0 _ rfl
  have cl1 := Kl.cell 1 _ rfl
  have zl := Kl.lt
  have HKl5 := Lib.hid Kl
  clear Kl
  go_wp2_with fail
  with_reducible refine (HD2.out _).mono ?_
  rintro e w6 ⟨rfl, hb⟩
  have Kl := (HKl5.out.alloc _).below hb
  have Ka := (BlkL.new _ [.bool true, .int .i64 (tl : Int), .int .i64 (x1 : Int), .int .i64 (l1 : Int)] 25).below hb
  try simp only [World.size_alloc] at Ka
  have HB6 := Lib.hid ((HB5.out.alloc (by have := HB5.out.size; simp; omega) _).trans (hb.mono (by have := HB5.out.size; simp <;> omega)))
  clear hb cl0 cl1 zl
  have cl0 := Kl.cell 0 _ rfl
  have cl1 := Kl.cell 1 _ rfl
  have zl := Kl.lt
  have ca0 := Ka.cell 0 _ rfl
  have ca1 := Ka.cell 1 _ rfl
  have ca2 := Ka.cell 2 _ rfl
  have ca3 := Ka.cell 3 _ rfl
  have za := Ka.lt
  have HKl6 := Lib.hid Kl
  have HKa6 := Lib.hid Ka
  clear Kl Ka
  go_wp2_with fail
  with_reducible refine (HD3.out _).mono ?_
  rintro e w7 ⟨rfl, hb⟩
  have Kl := (HKl6.out.alloc _).below hb
  have Ka := (HKa6.out.alloc _).below hb
  have Kb := (BlkL.new _ [.bool true, .int .i64 (tl : Int), .int .i64 (x1 : Int), .int .i64 (l1 : Int)] 25).below hb
  try simp only [World.size_alloc] at Kb
  have HB7 := Lib.hid ((HB6.out.alloc (by have := HB6.out.size; simp; omega) _).trans (hb.mono (by have := HB6.out.size; simp <;> omega)))
  clear hb cl0 cl1 zl ca0 ca1 ca2 ca3 za
  have HKl7 := Lib.hid Kl
  have HKa7 := Lib.hid Ka
  have HKb7 := Lib.hid Kb
  clear Kl Ka Kb
  go_wp2_with fail
  with_reducible refine (HI1.out _).mono ?_
  rintro e w8 ⟨rfl, hb⟩
  have Kl := (HKl7.out.alloc _).below hb
  have Ka := (HKa7.out.alloc _).below hb
  have Kb := (HKb7.out.alloc _).below hb
  have Kc := (BlkL.new _ [.bool true, .int .i64 (t3 : Int), .int .i64 (x3 : Int), .int .i64 (l3 : Int)] 25).below hb
  try simp only [World.size_alloc] at Kc
  have HB8 := Lib.hid ((HB7.out.alloc (by have := HB7.out.size; simp; omega) _).trans (hb.mono (by have := HB7.out.size; simp <;> omega)))
  clear hb
  have cc0 := Kc.cell 0 _ rfl
  have cc1 := Kc.cell 1 _ rfl
  have cc2 := Kc.cell 2 _ rfl
  have cc3 := Kc.cell 3 _ rfl
  have zc := Kc.lt
  have HKl8 := Lib.hid Kl
  have HKa8 := Lib.hid Ka
  have HKb8 := Lib.hid Kb
  have HKc8 := Lib.hid Kc
  clear Kl Ka Kb Kc
  go_wp2_with fail
  with_reducible refine (HI2.out _).mono ?_
  rintro e w9 ⟨rfl, hb⟩
  have Kl := HKl8.out.below hb
  have Ka := HKa8.out.below hb
  have Kb := HKb8.out.below hb
  have Kc := HKc8.out.below hb
  have HB9 := Lib.hid (HB8.out.trans (hb.mono (by have := HB8.out.size; simp <;> omega)))
  clear hb cc0 cc1 cc2 cc3 zc
  have HKl9 := Lib.hid Kl
  have HKa9 := Lib.hid Ka
  have HKb9 := Lib.hid Kb
  have HKc9 := Lib.hid Kc
  clear Kl Ka Kb Kc
  go_wp2
  go_ret
  exact ⟨rfl, HB9.out⟩


set_option maxHeartbeats 3200000 in
theorem gcraIdle_a4 (T Tau x y z mr : Int) (w : World) (t u tat now n more later tl x1 l1 t2 t3 x3 l3 : Nat)
    (HA : Hid (∀ w, Calls Try.prog 17 #[] w (ValEnd w (.bool true))))
    (HC : Hid (∀ w, Calls Try.prog 26 #[.agg #[.int .i64 T, .int .i64 Tau], .int .i64 x, .int .i64 y, .int .i64 z] w (ValEnd w (.tuple #[.agg #[.int .i64 (t : Int), .int .i64 (u : Int)], .int .i64 (tat : Int), .int .i64 (now : Int), .int .i64 (n : Int)]))))
    (HI : Hid (∀ w, Calls Try.prog 21 #[.int .i64 (tat : Int), .int .i64 (now : Int)] w (ValEnd w (.tuple #[.bool true, .int .i64 0]))))
    (hm : (more : Int) ≤ 65535)
    (HAdd : Hid (∀ w, Calls Try.prog 31 #[.int .i64 (now : Int), .int .i64 (more : Int)] w (ValEnd w (.int .i64 (later : Int)))))
    (HD1 : Hid (∀ w, Calls Try.prog 15 #[.agg #[.int .i64 (t : Int), .int .i64 (u : Int)], .int .i64 (tat : Int), .int .i64 (later : Int), .int .i64 (n : Int)] w (ValEnd w (.tuple #[.agg #[.bool true, .int .i64 (tl : Int), .int .i64 (x1 : Int), .int .i64 (l1 : Int)], .int .i64 0]))))
    (HD2 : Hid (∀ w, Calls Try.prog 15 #[.agg #[.int .i64 (t : Int), .int .i64 (u : Int)], .int .i64 0, .int .i64 (later : Int), .int .i64 (n : Int)] w (ValEnd w (.tuple #[.agg #[.bool true, .int .i64 (t2 : Int), .int .i64 (x1 : Int), .int .i64 (l1 : Int)], .int .i64 0]))))
    (HD3 : Hid (∀ w, Calls Try.prog 15 #[.agg #[.int .i64 (t : Int), .int .i64 (u : Int)], .int .i64 (tat : Int), .int .i64 (now : Int), .int .i64 (n : Int)] w (ValEnd w (.tuple #[.agg #[.bool true, .int .i64 (t3 : Int), .int .i64 (x3 : Int), .int .i64 (l3 : Int)], .int .i64 0]))))
    (hle : decide ((tat : Int) ≤ (now : Int)) = true)
    (hle2 : tat ≤ now)
    (hn : n = 0) :
    Calls Try.prog 8 #[.agg #[.int .i64 T, .int .i64 Tau], .int .i64 x, .int .i64 y, .int .i64 z, .int .u16 (more : Int)] w (ValEnd w (.bool true)) := by
  have hz : ((n : Int) == 0) = true := by simp; omega
  have hz2 : decide (0 < (n : Int)) = false := by simp; omega
  clear hn
  go_enter Try.func8, Try.ntmps8
  go_wp2_with fail
  with_reducible refine (HA.out _).mono ?_
  rintro e w1 ⟨rfl, hb⟩
  have Kl := (BlkL.new _ [.int .i64 T, .int .i64 Tau] 23).below hb
  try simp only [World.size_alloc] at Kl
  have HB1 := Lib.hid (((Below.refl w.heap.size w).alloc (by simp <;> omega) _).trans (hb.mono (by simp <;> omega)))
  clear hb
  have cl0 := Kl.cell 0 _ rfl
  have fl0 := Kl.froz 0 (by simp)
  have cl1 := Kl.cell 1 _ rfl
  have fl1 := Kl.froz 1 (by simp)
  have zl := Kl.lt
  have HKl1 := Lib.hid Kl
  clear Kl
  go_wp2_with fail
  with_reducible refine (HC.out _).mono ?_
  rintro e w2 ⟨rfl, hb⟩
  have Kl := HKl1.out.below hb
  have HB2 := Lib.hid (HB1.out.trans (hb.mono (by have := HB1.out.size; simp <;> omega)))
  clear hb cl0 fl0 cl1 fl1 zl
  have cl0 := Kl.cell 0 _ rfl
  have fl0 := Kl.froz 0 (by simp)
  have cl1 := Kl.cell 1 _ rfl
  have fl1 := Kl.froz 1 (by simp)
  have zl := Kl.lt
  have HKl2 := Lib.hid Kl
  clear Kl
  go_wp2_with fail
  with_reducible refine (HI.out _).mono ?_
  rintro e w3 ⟨rfl, hb⟩
  have Kl := ((HKl2.out.set 0 (.int .i64 (t : Int)) (by simp)).set 1 (.int .i64 (u : Int)) (by simp)).below hb
  simp only [List.set_cons_zero, List.set_cons_succ] at Kl
  have HB3 := Lib.hid (((HB2.out.setCell (p := ⟨w.heap.size, 0, none⟩) (by show w.heap.size ≤ w.heap.size; omega) (.int .i64 (t : Int))).setCell (p := ⟨w.heap.size, 1, none⟩) (by show w.heap.size ≤ w.heap.size; omega) (.int .i64 (u : Int))).trans (hb.mono (by have := HB2.out.size; simp <;> omega)))
  clear hb cl0 fl0 cl1 fl1 zl
  have cl0 := Kl.cell 0 _ rfl
  have cl1 := Kl.cell 1 _ rfl
  have zl := Kl.lt
  have HKl3 := Lib.hid Kl
  clear Kl
  go_wp2_with fail
  with_reducible refine (HAdd.out _).mono ?_
  rintro e w4 ⟨rfl, hb⟩
  have Kl := HKl3.out.below hb
  have HB4 := Lib.hid (HB3.out.trans (hb.mono (by have := HB3.out.size; simp <;> omega)))
  clear hb cl0 cl1 zl
  have cl0 := Kl.cell 0 _ rfl
  have cl1 := Kl.cell 1 _ rfl
  have zl := Kl.lt
  have HKl4 := Lib.hid Kl
  clear Kl
  go_wp2_with fail
  with_reducible refine (HD1.out _).mono ?_
  rintro e w5 ⟨rfl, hb⟩
  have Kl := HKl4.out.below hb
  have HB5 := Lib.hid (HB4.out.trans (hb.mono (by have := HB4.out.size; simp <;> omega)))
  clear hb cl0 cl1 zl
  have cl0 := Kl.cell 0 _ rfl
  have cl1 := Kl.cell 1 _ rfl
  have zl := Kl.lt
  have HKl5 := Lib.hid Kl
  clear Kl
  go_wp2_with fail
  with_reducible refine (HD2.out _).mono ?_
  rintro e w6 ⟨rfl, hb⟩
  have Kl := (HKl5.out.alloc _).below hb
  have Ka := (BlkL.new _ [.bool true, .int .i64 (tl : Int), .int .i64 (x1 : Int), .int .i64 (l1 : Int)] 25).below hb
  try simp only [World.size_alloc] at Ka
  have HB6 := Lib.hid ((HB5.out.alloc (by have := HB5.out.size; simp; omega) _).trans (hb.mono (by have := HB5.out.size; simp <;> omega)))
  clear hb cl0 cl1 zl
  have cl0 := Kl.cell 0 _ rfl
  have cl1 := Kl.cell 1 _ rfl
  have zl := Kl.lt
  have ca0 := Ka.cell 0 _ rfl
  have ca1 := Ka.cell 1 _ rfl
  have ca2 := Ka.cell 2 _ rfl
  have ca3 := Ka.cell 3 _ rfl
  have za := Ka.lt
  have HKl6 := Lib.hid Kl
  have HKa6 := Lib.hid Ka
  clear Kl Ka
  go_wp2_with fail
  with_reducible refine (HD3.out _).mono ?_
  rintro e w7 ⟨rfl, hb⟩
  have Kl := (HKl6.out.alloc _).below hb
  have Ka := (HKa6.out.alloc _).below hb
  have Kb := (BlkL.new _ [.bool true, .int .i64 (t2 : Int), .int .i64 (x1 : Int), .int .i64 (l1 : Int)] 25).below hb
  try simp only [World.size_alloc] at Kb
  have HB7 := Lib.hid ((HB6.out.alloc (by have := HB6.out.size; simp; omega) _).trans (hb.mono (by have := HB6.out.size; simp <;> omega)))
  clear hb cl0 cl1 zl ca0 ca1 ca2 ca3 za
  have HKl7 := Lib.hid Kl
  have HKa7 := Lib.hid Ka
  have HKb7 := Lib.hid Kb
  clear Kl Ka Kb
  go_wp2
  go_ret
  exact ⟨rfl, HB7.out.alloc HB7.out.size _⟩


theorem didleV_tick {tat now : Nat} (h1 : tat ≤ 4611686018427387903) (h2 : now ≤ 4611686018427387903) : didleV (tat : Int) (now : Int) = .tuple #[.bool (decide ((tat : Int) ≤ (now : Int))), .int .i64 0] := by
  unfold didleV
  rw [isTick_iff.2 ⟨by omega, by omega⟩, isTick_iff.2 ⟨by omega, by omega⟩]; rfl
theorem tatV_ge {T Tau tat now n : Nat} (h1 : 1 ≤ T) (hg : grB T Tau tat now n = true) (hn : 0 < n) : 1 ≤ tatV T Tau tat now n := by
  rw [tatV_pos hg hn]
  have := Nat.mul_le_mul hn h1
  omega
set_option maxHeartbeats 1600000 in
theorem gcraIdle_walk (T Tau x y z mr : Int) (w : World) (wT : (Lit.int .i64 T).wf = true) (wU : (Lit.int .i64 Tau).wf = true) (wx : (Lit.int .i64 x).wf = true) (wy : (Lit.int .i64 y).wf = true) (wz : (Lit.int .i64 z).wf = true) (wm : (Lit.int .u16 mr).wf = true) :
    Calls Try.prog 8 #[.agg #[.int .i64 T, .int .i64 Tau], .int .i64 x, .int .i64 y, .int .i64 z, .int .u16 mr] w (ValEnd w (.bool true)) := by
  have b1 := bounds_i64 wT
  have b2 := bounds_i64 wU
  have b3 := bounds_i64 wx
  have b4 := bounds_i64 wy
  have b5 := bounds_i64 wz
  have b6 := bounds_u16 wm
  obtain ⟨more, rfl⟩ : ∃ k : Nat, mr = (k : Int) := ⟨mr.toNat, by omega⟩
  have HC := fun w => clamped_any w T Tau x y z (by omega) (by omega) (by omega) (by omega) (by omega)
  obtain ⟨t, ht, ht1, ht2⟩ := clamp_one T
  obtain ⟨u, hu, hu2⟩ := clamp_nat Tau
  obtain ⟨tat, hx, hx2⟩ := clamp_nat x
  obtain ⟨now, hy, hn2⟩ := clamp_nat y
  obtain ⟨n, hz, hn3⟩ := clamp_nat z
  rw [ht, hu, hx, hy, hz] at HC
  have HI := fun w => gIdle_any w (tat : Int) (now : Int)
  rw [didleV_tick hx2 hn2] at HI
  have H3 := fun w => gDecide_nat w (n := n) ht1 ht2 hu2 hx2 hn2 hn3
  have ht3 := tatV_le (n := n) (Tau := u) ht1 hx2 hn2
  have ht4 := fun hg hn => tatV_ge (T := t) (Tau := u) (tat := tat) (now := now) (n := n) ht1 hg hn
  have HI1 := fun w => gIdle_any w (tatV t u tat now n : Int) (tatV t u tat now n : Int)
  rw [didleV_tick ht3 ht3, decide_eq_true (Int.le_refl _)] at HI1
  have HI2 : grB t u tat now n = true → 0 < n → ∀ w, Calls Try.prog 21 #[.int .i64 (tatV t u tat now n : Int), .int .i64 ((tatV t u tat now n : Int) - 1)] w (ValEnd w (.tuple #[.bool false, .int .i64 0])) := by
    intro hg hn w
    have h := ht4 hg hn
    have := gIdle_any w (tatV t u tat now n : Int) ((tatV t u tat now n - 1 : Nat) : Int)
    rw [didleV_tick ht3 (by omega), decide_eq_false (by omega), show ((tatV t u tat now n - 1 : Nat) : Int) = (tatV t u tat now n : Int) - 1 by omega] at this
    exact this
  have hz0 : n = 0 → grB t u tat now n = true := fun h => by unfold grB; simp [h]
  by_cases hle : tat ≤ now
  · have hl := fun l (h : now ≤ l) => idle_gr (T := t) (Tau := u) (tat := tat) (t := l) (n := n) (by omega)
    rw [decide_eq_true (by omega)] at HI
    obtain ⟨later, hlat, hlat2, hlat3⟩ : ∃ l : Nat, clampV ((now : Int) + (more : Int)) = (l : Int) ∧ now ≤ l ∧ l ≤ 4611686018427387903 := by
      unfold clampV; rw [if_neg (by omega)]; split
      · exact ⟨4611686018427387903, rfl, by omega, by omega⟩
      · exact ⟨now + more, by omega, by omega, by omega⟩
    have HAdd := fun w => radd_ok w now more (by omega) (by omega)
    rw [hlat] at HAdd
    have e1 := idle_gr (T := t) (Tau := u) (tat := tat) (t := later) (n := n) (by omega)
    have e2 := idle_wt (T := t) (Tau := u) (tat := tat) (t := later) (n := n) (by omega)
    have e3 := idle_left2 (T := t) (Tau := u) (tat := tat) (t := later) (n := n) (by omega)
    have e4 := fun hg hn => idle_tat (T := t) (Tau := u) (tat := tat) (t := later) (n := n) (by omega) hg hn
    have H1 := fun w => gDecide_nat w (n := n) ht1 ht2 hu2 hx2 hlat3 hn3
    have H2 := fun w => gDecide_nat w (n := n) (tat := 0) ht1 ht2 hu2 (by omega) hlat3 hn3
    have hz1 : n = 0 → grB t u tat later n = true := fun h => by unfold grB; simp [h]
    rw [← e1, ← e2, ← e3] at H2
    generalize leftV t u (tatV t u tat now n) now = l3 at *
    generalize leftV t u (tatV t u tat later n) later = l1 at *
    generalize wtV t u tat now n = x3 at *
    generalize wtV t u tat later n = x1 at *
    rcases Nat.eq_zero_or_pos n with hn | hn
    · rw [hz0 hn] at H3
      rw [hz1 hn] at H1 H2
      exact gcraIdle_a4 T Tau x y z (more : Int) w t u tat now n more later _ x1 l1 _ _ x3 l3 (Lib.hid awake5_any) (Lib.hid HC) (Lib.hid HI) (by omega) (Lib.hid HAdd) (Lib.hid H1) (Lib.hid H2) (Lib.hid H3) (decide_eq_true (by omega)) hle hn
    · rcases hg1 : grB t u tat later n with _ | _
      · rw [hg1] at H1 H2
        rcases hg3 : grB t u tat now n with _ | _
        · rw [hg3] at H3
          exact gcraIdle_a0 T Tau x y z (more : Int) w t u tat now n more later _ x1 l1 _ _ x3 l3 (Lib.hid awake5_any) (Lib.hid HC) (Lib.hid HI) (by omega) (Lib.hid HAdd) (Lib.hid H1) (Lib.hid H2) (Lib.hid H3) (decide_eq_true (by omega)) hle hn
        · rw [hg3] at H3
          exact gcraIdle_a1 T Tau x y z (more : Int) w t u tat now n more later _ x1 l1 _ _ x3 l3 (Lib.hid awake5_any) (Lib.hid HC) (Lib.hid HI) (by omega) (Lib.hid HAdd) (Lib.hid H1) (Lib.hid H2) (Lib.hid H3) (Lib.hid HI1) (Lib.hid (HI2 hg3 hn)) (by have := ht4 hg3 hn; omega) (by omega) (decide_eq_true (by omega)) hle hn
      · rw [← e4 hg1 hn] at H2
        rw [hg1] at H1 H2
        rcases hg3 : grB t u tat now n with _ | _
        · rw [hg3] at H3
          exact gcraIdle_a2 T Tau x y z (more : Int) w t u tat now n more later _ x1 l1 0 _ x3 l3 (Lib.hid awake5_any) (Lib.hid HC) (Lib.hid HI) (by omega) (Lib.hid HAdd) (Lib.hid H1) (Lib.hid H2) (Lib.hid H3) (decide_eq_true (by omega)) hle hn
        · rw [hg3] at H3
          exact gcraIdle_a3 T Tau x y z (more : Int) w t u tat now n more later _ x1 l1 0 _ x3 l3 (Lib.hid awake5_any) (Lib.hid HC) (Lib.hid HI) (by omega) (Lib.hid HAdd) (Lib.hid H1) (Lib.hid H2) (Lib.hid H3) (Lib.hid HI1) (Lib.hid (HI2 hg3 hn)) (by have := ht4 hg3 hn; omega) (by omega) (decide_eq_true (by omega)) hle hn
  · rw [decide_eq_false (by omega)] at HI
    rcases Nat.eq_zero_or_pos n with hn | hn
    · rw [hz0 hn] at H3
      exact gcraIdle_b2 T Tau x y z (more : Int) w t u tat now n _ _ _ (Lib.hid awake5_any) (Lib.hid HC) (Lib.hid HI) (Lib.hid H3) (decide_eq_false (by omega)) hle hn
    · rcases hg3 : grB t u tat now n with _ | _
      · rw [hg3] at H3
        exact gcraIdle_b0 T Tau x y z (more : Int) w t u tat now n _ _ _ (Lib.hid awake5_any) (Lib.hid HC) (Lib.hid HI) (Lib.hid H3) (decide_eq_false (by omega)) hle hn
      · rw [hg3] at H3
        exact gcraIdle_b1 T Tau x y z (more : Int) w t u tat now n _ _ _ (Lib.hid awake5_any) (Lib.hid HC) (Lib.hid HI) (Lib.hid H3) (Lib.hid HI1) (Lib.hid (HI2 hg3 hn)) (by have := ht4 hg3 hn; omega) (by omega) (decide_eq_false (by omega)) hle hn

end Go.Proofs.Ythigbhhhhebjeaa
