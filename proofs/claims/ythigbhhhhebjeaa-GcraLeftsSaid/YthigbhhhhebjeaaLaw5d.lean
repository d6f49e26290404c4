/- The law GcraParts: its walk. -/
import Derived.Test.YthigbhhhhebjeaaLaw5c
namespace Go.Proofs.Ythigbhhhhebjeaa
open Go.RowKit
set_option maxRecDepth 100000
set_option linter.unusedVariables false

theorem clampV_zero : clampV 0 = 0 := clampV_in (by omega) (by omega)

set_option maxHeartbeats 1600000 in
theorem gcraParts_yy (T Tau x y : Int) (w : World) (t u tat now a b t1 x1 l1 t2 x2 l2 t3 x3 l3 : Nat) (ha : (a : Int) ≤ 4294967295) (hb : (b : Int) ≤ 4294967295)
    (HA : Hid (∀ w, Calls Try.prog 17 #[] w (ValEnd w (.bool true))))
    (HC : Hid (∀ w, Calls Try.prog 26 #[.agg #[.int .i64 T, .int .i64 Tau], .int .i64 x, .int .i64 y, .int .i64 0] w (ValEnd w (.tuple #[.agg #[.int .i64 (t : Int), .int .i64 (u : Int)], .int .i64 (tat : Int), .int .i64 (now : Int), .int .i64 0]))))
    (HD1 : Hid (∀ w, Calls Try.prog 15 #[.agg #[.int .i64 (t : Int), .int .i64 (u : Int)], .int .i64 (tat : Int), .int .i64 (now : Int), .int .i64 ((a : Int) + (b : Int))] w (ValEnd w (.tuple #[.agg #[.bool true, .int .i64 (t3 : Int), .int .i64 (x1 : Int), .int .i64 (l3 : Int)], .int .i64 0]))))
    (HD2 : Hid (∀ w, Calls Try.prog 15 #[.agg #[.int .i64 (t : Int), .int .i64 (u : Int)], .int .i64 (tat : Int), .int .i64 (now : Int), .int .i64 (a : Int)] w (ValEnd w (.tuple #[.agg #[.bool true, .int .i64 (t2 : Int), .int .i64 (x2 : Int), .int .i64 (l2 : Int)], .int .i64 0]))))
    (HD3 : Hid (∀ w, Calls Try.prog 15 #[.agg #[.int .i64 (t : Int), .int .i64 (u : Int)], .int .i64 (t2 : Int), .int .i64 (now : Int), .int .i64 (b : Int)] w (ValEnd w (.tuple #[.agg #[.bool true, .int .i64 (t3 : Int), .int .i64 (x3 : Int), .int .i64 (l3 : Int)], .int .i64 0])))) :
    Calls Try.prog 9 #[.agg #[.int .i64 T, .int .i64 Tau], .int .i64 x, .int .i64 y, .int .u32 (a : Int), .int .u32 (b : Int)] w (ValEnd w (.bool true)) := by
  have ha0 : (0 : Int) ≤ a := by omega
  have hb0 : (0 : Int) ≤ b := by omega
  go_enter Try.func9, Try.ntmps9
  go_wp2_with fail
  refine (HA.out _).mono ?_
  rintro e w1 ⟨rfl, hb⟩
  have Kl := (BlkL.new _ [.int .i64 T, .int .i64 Tau] 23).below hb
  try simp only [World.size_alloc] at Kl
  have HB1 := Lib.hid (((Below.refl w.heap.size w).alloc (by simp <;> omega) _).trans (hb.mono (by simp <;> omega)))
  clear hb
  have cl0 := Kl.cell 0 _ rfl
  have fl0 := Kl.froz 0 (by simp)
  have cl1 := Kl.cell 1 _ rfl
  have fl1 := Kl.froz 1 (by simp)
  have zl := Kl.lt
  have HKl1 := Lib.hid Kl
  clear Kl
  go_wp2_with fail
  refine (HC.out _).mono ?_
  rintro e w2 ⟨rfl, hb⟩
  have Kl := HKl1.out.below hb
  have HB2 := Lib.hid (HB1.out.trans (hb.mono (by have := HB1.out.size; simp <;> omega)))
  clear hb cl0 fl0 cl1 fl1 zl
  have cl0 := Kl.cell 0 _ rfl
  have fl0 := Kl.froz 0 (by simp)
  have cl1 := Kl.cell 1 _ rfl
  have fl1 := Kl.froz 1 (by simp)
  have zl := Kl.lt
  have HKl2 := Lib.hid Kl
  clear Kl
  go_wp2_with fail
  refine (HD1.out _).mono ?_
  rintro e w3 ⟨rfl, hb⟩
  have Kl := ((HKl2.out.set 0 (.int .i64 (t : Int)) (by simp)).set 1 (.int .i64 (u : Int)) (by simp)).below hb
  simp only [List.set_cons_zero, List.set_cons_succ] at Kl
  have HB3 := Lib.hid (((HB2.out.setCell (p := ⟨w.heap.size, 0, none⟩) (by show w.heap.size ≤ w.heap.size; omega) (.int .i64 (t : Int))).setCell (p := ⟨w.heap.size, 1, none⟩) (by show w.heap.size ≤ w.heap.size; omega) (.int .i64 (u : Int))).trans (hb.mono (by have := HB2.out.size; simp <;> omega)))
  clear hb cl0 fl0 cl1 fl1 zl
  have cl0 := Kl.cell 0 _ rfl
  have cl1 := Kl.cell 1 _ rfl
  have zl := Kl.lt
  have HKl3 := Lib.hid Kl
  clear Kl
  go_wp2_with fail
  refine (HD2.out _).mono ?_
  rintro e w4 ⟨rfl, hb⟩
  have Kl := (HKl3.out.alloc _).below hb
  have Ka := (BlkL.new _ [.bool true, .int .i64 (t3 : Int), .int .i64 (x1 : Int), .int .i64 (l3 : Int)] 25).below hb
  try simp only [World.size_alloc] at Ka
  have HB4 := Lib.hid ((HB3.out.alloc (by have := HB3.out.size; simp; omega) _).trans (hb.mono (by have := HB3.out.size; simp <;> omega)))
  clear hb cl0 cl1 zl
  have cl0 := Kl.cell 0 _ rfl
  have cl1 := Kl.cell 1 _ rfl
  have zl := Kl.lt
  have HKl4 := Lib.hid Kl
  have HKa4 := Lib.hid Ka
  clear Kl Ka
  go_wp2_with fail
  refine (HD3.out _).mono ?_
  rintro e w5 ⟨rfl, hb⟩
  have Kl := (HKl4.out.alloc _).below hb
  have Ka := (HKa4.out.alloc _).below hb
  have Kb := (BlkL.new _ [.bool true, .int .i64 (t2 : Int), .int .i64 (x2 : Int), .int .i64 (l2 : Int)] 25).below hb
  try simp only [World.size_alloc] at Kb
  have HB5 := Lib.hid ((HB4.out.alloc (by have := HB4.out.size; simp; omega) _).trans (hb.mono (by have := HB4.out.size; simp <;> omega)))
  clear hb cl0 cl1 zl
  have ca0 := Ka.cell 0 _ rfl
  have ca1 := Ka.cell 1 _ rfl
  have ca2 := Ka.cell 2 _ rfl
  have ca3 := Ka.cell 3 _ rfl
  have za := Ka.lt
  have cb0 := Kb.cell 0 _ rfl
  have cb1 := Kb.cell 1 _ rfl
  have cb2 := Kb.cell 2 _ rfl
  have cb3 := Kb.cell 3 _ rfl
  have zb := Kb.lt
  have HKl5 := Lib.hid Kl
  have HKa5 := Lib.hid Ka
  have HKb5 := Lib.hid Kb
  clear Kl Ka Kb
  go_wp2
  go_ret
  exact ⟨rfl, HB5.out.alloc HB5.out.size _⟩


set_option maxHeartbeats 1600000 in
theorem gcraParts_yn (T Tau x y : Int) (w : World) (t u tat now a b t1 x1 l1 t2 x2 l2 t3 x3 l3 : Nat) (ha : (a : Int) ≤ 4294967295) (hb : (b : Int) ≤ 4294967295)
    (HA : Hid (∀ w, Calls Try.prog 17 #[] w (ValEnd w (.bool true))))
    (HC : Hid (∀ w, Calls Try.prog 26 #[.agg #[.int .i64 T, .int .i64 Tau], .int .i64 x, .int .i64 y, .int .i64 0] w (ValEnd w (.tuple #[.agg #[.int .i64 (t : Int), .int .i64 (u : Int)], .int .i64 (tat : Int), .int .i64 (now : Int), .int .i64 0]))))
    (HD1 : Hid (∀ w, Calls Try.prog 15 #[.agg #[.int .i64 (t : Int), .int .i64 (u : Int)], .int .i64 (tat : Int), .int .i64 (now : Int), .int .i64 ((a : Int) + (b : Int))] w (ValEnd w (.tuple #[.agg #[.bool false, .int .i64 (t1 : Int), .int .i64 (x1 : Int), .int .i64 (l1 : Int)], .int .i64 0]))))
    (HD2 : Hid (∀ w, Calls Try.prog 15 #[.agg #[.int .i64 (t : Int), .int .i64 (u : Int)], .int .i64 (tat : Int), .int .i64 (now : Int), .int .i64 (a : Int)] w (ValEnd w (.tuple #[.agg #[.bool true, .int .i64 (t2 : Int), .int .i64 (x2 : Int), .int .i64 (l2 : Int)], .int .i64 0]))))
    (HD3 : Hid (∀ w, Calls Try.prog 15 #[.agg #[.int .i64 (t : Int), .int .i64 (u : Int)], .int .i64 (t2 : Int), .int .i64 (now : Int), .int .i64 (b : Int)] w (ValEnd w (.tuple #[.agg #[.bool false, .int .i64 (t3 : Int), .int .i64 (x3 : Int), .int .i64 (l3 : Int)], .int .i64 0])))) :
    Calls Try.prog 9 #[.agg #[.int .i64 T, .int .i64 Tau], .int .i64 x, .int .i64 y, .int .u32 (a : Int), .int .u32 (b : Int)] w (ValEnd w (.bool true)) := by
  have ha0 : (0 : Int) ≤ a := by omega
  have hb0 : (0 : Int) ≤ b := by omega
  go_enter Try.func9, Try.ntmps9
  go_wp2_with fail
  refine (HA.out _).mono ?_
  rintro e w1 ⟨rfl, hb⟩
  have Kl := (BlkL.new _ [.int .i64 T, .int .i64 Tau] 23).below hb
  try simp only [World.size_alloc] at Kl
  have HB1 := Lib.hid (((Below.refl w.heap.size w).alloc (by simp <;> omega) _).trans (hb.mono (by simp <;> omega)))
  clear hb
  have cl0 := Kl.cell 0 _ rfl
  have fl0 := Kl.froz 0 (by simp)
  have cl1 := Kl.cell 1 _ rfl
  have fl1 := Kl.froz 1 (by simp)
  have zl := Kl.lt
  have HKl1 := Lib.hid Kl
  clear Kl
  go_wp2_with fail
  refine (HC.out _).mono ?_
  rintro e w2 ⟨rfl, hb⟩
  have Kl := HKl1.out.below hb
  have HB2 := Lib.hid (HB1.out.trans (hb.mono (by have := HB1.out.size; simp <;> omega)))
  clear hb cl0 fl0 cl1 fl1 zl
  have cl0 := Kl.cell 0 _ rfl
  have fl0 := Kl.froz 0 (by simp)
  have cl1 := Kl.cell 1 _ rfl
  have fl1 := Kl.froz 1 (by simp)
  have zl := Kl.lt
  have HKl2 := Lib.hid Kl
  clear Kl
  go_wp2_with fail
  refine (HD1.out _).mono ?_
  rintro e w3 ⟨rfl, hb⟩
  have Kl := ((HKl2.out.set 0 (.int .i64 (t : Int)) (by simp)).set 1 (.int .i64 (u : Int)) (by simp)).below hb
  simp only [List.set_cons_zero, List.set_cons_succ] at Kl
  have HB3 := Lib.hid (((HB2.out.setCell (p := ⟨w.heap.size, 0, none⟩) (by show w.heap.size ≤ w.heap.size; omega) (.int .i64 (t : Int))).setCell (p := ⟨w.heap.size, 1, none⟩) (by show w.heap.size ≤ w.heap.size; omega) (.int .i64 (u : Int))).trans (hb.mono (by have := HB2.out.size; simp <;> omega)))
  clear hb cl0 fl0 cl1 fl1 zl
  have cl0 := Kl.cell 0 _ rfl
  have cl1 := Kl.cell 1 _ rfl
  have zl := Kl.lt
  have HKl3 := Lib.hid Kl
  clear Kl
  go_wp2_with fail
  refine (HD2.out _).mono ?_
  rintro e w4 ⟨rfl, hb⟩
  have Kl := (HKl3.out.alloc _).below hb
  have Ka := (BlkL.new _ [.bool false, .int .i64 (t1 : Int), .int .i64 (x1 : Int), .int .i64 (l1 : Int)] 25).below hb
  try simp only [World.size_alloc] at Ka
  have HB4 := Lib.hid ((HB3.out.alloc (by have := HB3.out.size; simp; omega) _).trans (hb.mono (by have := HB3.out.size; simp <;> omega)))
  clear hb cl0 cl1 zl
  have cl0 := Kl.cell 0 _ rfl
  have cl1 := Kl.cell 1 _ rfl
  have zl := Kl.lt
  have HKl4 := Lib.hid Kl
  have HKa4 := Lib.hid Ka
  clear Kl Ka
  go_wp2_with fail
  refine (HD3.out _).mono ?_
  rintro e w5 ⟨rfl, hb⟩
  have Kl := (HKl4.out.alloc _).below hb
  have Ka := (HKa4.out.alloc _).below hb
  have Kb := (BlkL.new _ [.bool true, .int .i64 (t2 : Int), .int .i64 (x2 : Int), .int .i64 (l2 : Int)] 25).below hb
  try simp only [World.size_alloc] at Kb
  have HB5 := Lib.hid ((HB4.out.alloc (by have := HB4.out.size; simp; omega) _).trans (hb.mono (by have := HB4.out.size; simp <;> omega)))
  clear hb cl0 cl1 zl
  have ca0 := Ka.cell 0 _ rfl
  have ca1 := Ka.cell 1 _ rfl
  have ca2 := Ka.cell 2 _ rfl
  have ca3 := Ka.cell 3 _ rfl
  have za := Ka.lt
  have cb0 := Kb.cell 0 _ rfl
  have cb1 := Kb.cell 1 _ rfl
  have cb2 := Kb.cell 2 _ rfl
  have cb3 := Kb.cell 3 _ rfl
  have zb := Kb.lt
  have HKl5 := Lib.hid Kl
  have HKa5 := Lib.hid Ka
  have HKb5 := Lib.hid Kb
  clear Kl Ka Kb
  go_wp2
  go_ret
  exact ⟨rfl, HB5.out.alloc HB5.out.size _⟩


set_option maxHeartbeats 1600000 in
theorem gcraParts_ny (T Tau x y : Int) (w : World) (t u tat now a b t1 x1 l1 t2 x2 l2 t3 x3 l3 : Nat) (ha : (a : Int) ≤ 4294967295) (hb : (b : Int) ≤ 4294967295)
    (HA : Hid (∀ w, Calls Try.prog 17 #[] w (ValEnd w (.bool true))))
    (HC : Hid (∀ w, Calls Try.prog 26 #[.agg #[.int .i64 T, .int .i64 Tau], .int .i64 x, .int .i64 y, .int .i64 0] w (ValEnd w (.tuple #[.agg #[.int .i64 (t : Int), .int .i64 (u : Int)], .int .i64 (tat : Int), .int .i64 (now : Int), .int .i64 0]))))
    (HD1 : Hid (∀ w, Calls Try.prog 15 #[.agg #[.int .i64 (t : Int), .int .i64 (u : Int)], .int .i64 (tat : Int), .int .i64 (now : Int), .int .i64 ((a : Int) + (b : Int))] w (ValEnd w (.tuple #[.agg #[.bool false, .int .i64 (t1 : Int), .int .i64 (x1 : Int), .int .i64 (l1 : Int)], .int .i64 0]))))
    (HD2 : Hid (∀ w, Calls Try.prog 15 #[.agg #[.int .i64 (t : Int), .int .i64 (u : Int)], .int .i64 (tat : Int), .int .i64 (now : Int), .int .i64 (a : Int)] w (ValEnd w (.tuple #[.agg #[.bool false, .int .i64 (t2 : Int), .int .i64 (x2 : Int), .int .i64 (l2 : Int)], .int .i64 0]))))
    (HD3 : Hid (∀ w, Calls Try.prog 15 #[.agg #[.int .i64 (t : Int), .int .i64 (u : Int)], .int .i64 (t2 : Int), .int .i64 (now : Int), .int .i64 (b : Int)] w (ValEnd w (.tuple #[.agg #[.bool true, .int .i64 (t3 : Int), .int .i64 (x3 : Int), .int .i64 (l3 : Int)], .int .i64 0])))) :
    Calls Try.prog 9 #[.agg #[.int .i64 T, .int .i64 Tau], .int .i64 x, .int .i64 y, .int .u32 (a : Int), .int .u32 (b : Int)] w (ValEnd w (.bool true)) := by
  have ha0 : (0 : Int) ≤ a := by omega
  have hb0 : (0 : Int) ≤ b := by omega
  go_enter Try.func9, Try.ntmps9
  go_wp2_with fail
  refine (HA.out _).mono ?_
  rintro e w1 ⟨rfl, hb⟩
  have Kl := (BlkL.new _ [.int .i64 T, .int .i64 Tau] 23).below hb
  try simp only [World.size_alloc] at Kl
  have HB1 := Lib.hid (((Below.refl w.heap.size w).alloc (by simp <;> omega) _).trans (hb.mono (by simp <;> omega)))
  clear hb
  have cl0 := Kl.cell 0 _ rfl
  have fl0 := Kl.froz 0 (by simp)
  have cl1 := Kl.cell 1 _ rfl
  have fl1 := Kl.froz 1 (by simp)
  have zl := Kl.lt
  have HKl1 := Lib.hid Kl
  clear Kl
  go_wp2_with fail
  refine (HC.out _).mono ?_
  rintro e w2 ⟨rfl, hb⟩
  have Kl := HKl1.out.below hb
  have HB2 := Lib.hid (HB1.out.trans (hb.mono (by have := HB1.out.size; simp <;> omega)))
  clear hb cl0 fl0 cl1 fl1 zl
  have cl0 := Kl.cell 0 _ rfl
  have fl0 := Kl.froz 0 (by simp)
  have cl1 := Kl.cell 1 _ rfl
  have fl1 := Kl.froz 1 (by simp)
  have zl := Kl.lt
  have HKl2 := Lib.hid Kl
  clear Kl
  go_wp2_with fail
  refine (HD1.out _).mono ?_
  rintro e w3 ⟨rfl, hb⟩
  have Kl := ((HKl2.out.set 0 (.int .i64 (t : Int)) (by simp)).set 1 (.int .i64 (u : Int)) (by simp)).below hb
  simp only [List.set_cons_zero, List.set_cons_succ] at Kl
  have HB3 := Lib.hid (((HB2.out.setCell (p := ⟨w.heap.size, 0, none⟩) (by show w.heap.size ≤ w.heap.size; omega) (.int .i64 (t : Int))).setCell (p := ⟨w.heap.size, 1, none⟩) (by show w.heap.size ≤ w.heap.size; omega) (.int .i64 (u : Int))).trans (hb.mono (by have := HB2.out.size; simp <;> omega)))
  clear hb cl0 fl0 cl1 fl1 zl
  have cl0 := Kl.cell 0 _ rfl
  have cl1 := Kl.cell 1 _ rfl
  have zl := Kl.lt
  have HKl3 := Lib.hid Kl
  clear Kl
  go_wp2_with fail
  refine (HD2.out _).mono ?_
  rintro e w4 ⟨rfl, hb⟩
  have Kl := (HKl3.out.alloc _).below hb
  have Ka := (BlkL.new _ [.bool false, .int .i64 (t1 : Int), .int .i64 (x1 : Int), .int .i64 (l1 : Int)] 25).below hb
  try simp only [World.size_alloc] at Ka
  have HB4 := Lib.hid ((HB3.out.alloc (by have := HB3.out.size; simp; omega) _).trans (hb.mono (by have := HB3.out.size; simp <;> omega)))
  clear hb cl0 cl1 zl
  have cl0 := Kl.cell 0 _ rfl
  have cl1 := Kl.cell 1 _ rfl
  have zl := Kl.lt
  have HKl4 := Lib.hid Kl
  have HKa4 := Lib.hid Ka
  clear Kl Ka
  go_wp2_with fail
  refine (HD3.out _).mono ?_
  rintro e w5 ⟨rfl, hb⟩
  have Kl := (HKl4.out.alloc _).below hb
  have Ka := (HKa4.out.alloc _).below hb
  have Kb := (BlkL.new _ [.bool false, .int .i64 (t2 : Int), .int .i64 (x2 : Int), .int .i64 (l2 : Int)] 25).below hb
  try simp only [World.size_alloc] at Kb
  have HB5 := Lib.hid ((HB4.out.alloc (by have := HB4.out.size; simp; omega) _).trans (hb.mono (by have := HB4.out.size; simp <;> omega)))
  clear hb cl0 cl1 zl
  have ca0 := Ka.cell 0 _ rfl
  have ca1 := Ka.cell 1 _ rfl
  have ca2 := Ka.cell 2 _ rfl
  have ca3 := Ka.cell 3 _ rfl
  have za := Ka.lt
  have cb0 := Kb.cell 0 _ rfl
  have cb1 := Kb.cell 1 _ rfl
  have cb2 := Kb.cell 2 _ rfl
  have cb3 := Kb.cell 3 _ rfl
  have zb := Kb.lt
  have HKl5 := Lib.hid Kl
  have HKa5 := Lib.hid Ka
  have HKb5 := Lib.hid Kb
  clear Kl Ka Kb
  go_wp2
  go_ret
  exact ⟨rfl, HB5.out.alloc HB5.out.size _⟩


set_option maxHeartbeats 1600000 in
theorem gcraParts_nn (T Tau x y : Int) (w : World) (t u tat now a b t1 x1 l1 t2 x2 l2 t3 x3 l3 : Nat) (ha : (a : Int) ≤ 4294967295) (hb : (b : Int) ≤ 4294967295)
    (HA : Hid (∀ w, Calls Try.prog 17 #[] w (ValEnd w (.bool true))))
    (HC : Hid (∀ w, Calls Try.prog 26 #[.agg #[.int .i64 T, .int .i64 Tau], .int .i64 x, .int .i64 y, .int .i64 0] w (ValEnd w (.tuple #[.agg #[.int .i64 (t : Int), .int .i64 (u : Int)], .int .i64 (tat : Int), .int .i64 (now : Int), .int .i64 0]))))
    (HD1 : Hid (∀ w, Calls Try.prog 15 #[.agg #[.int .i64 (t : Int), .int .i64 (u : Int)], .int .i64 (tat : Int), .int .i64 (now : Int), .int .i64 ((a : Int) + (b : Int))] w (ValEnd w (.tuple #[.agg #[.bool false, .int .i64 (t1 : Int), .int .i64 (x1 : Int), .int .i64 (l1 : Int)], .int .i64 0]))))
    (HD2 : Hid (∀ w, Calls Try.prog 15 #[.agg #[.int .i64 (t : Int), .int .i64 (u : Int)], .int .i64 (tat : Int), .int .i64 (now : Int), .int .i64 (a : Int)] w (ValEnd w (.tuple #[.agg #[.bool false, .int .i64 (t2 : Int), .int .i64 (x2 : Int), .int .i64 (l2 : Int)], .int .i64 0]))))
    (HD3 : Hid (∀ w, Calls Try.prog 15 #[.agg #[.int .i64 (t : Int), .int .i64 (u : Int)], .int .i64 (t2 : Int), .int .i64 (now : Int), .int .i64 (b : Int)] w (ValEnd w (.tuple #[.agg #[.bool false, .int .i64 (t3 : Int), .int .i64 (x3 : Int), .int .i64 (l3 : Int)], .int .i64 0])))) :
    Calls Try.prog 9 #[.agg #[.int .i64 T, .int .i64 Tau], .int .i64 x, .int .i64 y, .int .u32 (a : Int), .int .u32 (b : Int)] w (ValEnd w (.bool true)) := by
  have ha0 : (0 : Int) ≤ a := by omega
  have hb0 : (0 : Int) ≤ b := by omega
  go_enter Try.func9, Try.ntmps9
  go_wp2_with fail
  refine (HA.out _).mono ?_
  rintro e w1 ⟨rfl, hb⟩
  have Kl := (BlkL.new _ [.int .i64 T, .int .i64 Tau] 23).below hb
  try simp only [World.size_alloc] at Kl
  have HB1 := Lib.hid (((Below.refl w.heap.size w).alloc (by simp <;> omega) _).trans (hb.mono (by simp <;> omega)))
  clear hb
  have cl0 := Kl.cell 0 _ rfl
  have fl0 := Kl.froz 0 (by simp)
  have cl1 := Kl.cell 1 _ rfl
  have fl1 := Kl.froz 1 (by simp)
  have zl := Kl.lt
  have HKl1 := Lib.hid Kl
  clear Kl
  go_wp2_with fail
  refine (HC.out _).mono ?_
  rintro e w2 ⟨rfl, hb⟩
  have Kl := HKl1.out.below hb
  have HB2 := Lib.hid (HB1.out.trans (hb.mono (by have := HB1.out.size; simp <;> omega)))
  clear hb cl0 fl0 cl1 fl1 zl
  have cl0 := Kl.cell 0 _ rfl
  have fl0 := Kl.froz 0 (by simp)
  have cl1 := Kl.cell 1 _ rfl
  have fl1 := Kl.froz 1 (by simp)
  have zl := Kl.lt
  have HKl2 := Lib.hid Kl
  clear Kl
  go_wp2_with fail
  refine (HD1.out _).mono ?_
  rintro e w3 ⟨rfl, hb⟩
  have Kl := ((HKl2.out.set 0 (.int .i64 (t : Int)) (by simp)).set 1 (.int .i64 (u : Int)) (by simp)).below hb
  simp only [List.set_cons_zero, List.set_cons_succ] at Kl
  have HB3 := Lib.hid (((HB2.out.setCell (p := ⟨w.heap.size, 0, none⟩) (by show w.heap.size ≤ w.heap.size; omega) (.int .i64 (t : Int))).setCell (p := ⟨w.heap.size, 1, none⟩) (by show w.heap.size ≤ w.heap.size; omega) (.int .i64 (u : Int))).trans (hb.mono (by have := HB2.out.size; simp <;> omega)))
  clear hb cl0 fl0 cl1 fl1 zl
  have cl0 := Kl.cell 0 _ rfl
  have cl1 := Kl.cell 1 _ rfl
  have zl := Kl.lt
  have HKl3 := Lib.hid Kl
  clear Kl
  go_wp2_with fail
  refine (HD2.out _).mono ?_
  rintro e w4 ⟨rfl, hb⟩
  have Kl := (HKl3.out.alloc _).below hb
  have Ka := (BlkL.new _ [.bool false, .int .i64 (t1 : Int), .int .i64 (x1 : Int), .int .i64 (l1 : Int)] 25).below hb
  try simp only [World.size_alloc] at Ka
  have HB4 := Lib.hid ((HB3.out.alloc (by have := HB3.out.size; simp; omega) _).trans (hb.mono (by have := HB3.out.size; simp <;> omega)))
  clear hb cl0 cl1 zl
  have cl0 := Kl.cell 0 _ rfl
  have cl1 := Kl.cell 1 _ rfl
  have zl := Kl.lt
  have HKl4 := Lib.hid Kl
  have HKa4 := Lib.hid Ka
  clear Kl Ka
  go_wp2_with fail
  refine (HD3.out _).mono ?_
  rintro e w5 ⟨rfl, hb⟩
  have Kl := (HKl4.out.alloc _).below hb
  have Ka := (HKa4.out.alloc _).below hb
  have Kb := (BlkL.new _ [.bool false, .int .i64 (t2 : Int), .int .i64 (x2 : Int), .int .i64 (l2 : Int)] 25).below hb
  try simp only [World.size_alloc] at Kb
  have HB5 := Lib.hid ((HB4.out.alloc (by have := HB4.out.size; simp; omega) _).trans (hb.mono (by have := HB4.out.size; simp <;> omega)))
  clear hb cl0 cl1 zl
  have ca0 := Ka.cell 0 _ rfl
  have ca1 := Ka.cell 1 _ rfl
  have ca2 := Ka.cell 2 _ rfl
  have ca3 := Ka.cell 3 _ rfl
  have za := Ka.lt
  have cb0 := Kb.cell 0 _ rfl
  have cb1 := Kb.cell 1 _ rfl
  have cb2 := Kb.cell 2 _ rfl
  have cb3 := Kb.cell 3 _ rfl
  have zb := Kb.lt
  have HKl5 := Lib.hid Kl
  have HKa5 := Lib.hid Ka
  have HKb5 := Lib.hid Kb
  clear Kl Ka Kb
  go_wp2
  go_ret
  exact ⟨rfl, HB5.out.alloc HB5.out.size _⟩


theorem gcraParts_walk (T Tau x y : Int) (a b : Int) (w : World) (wT : (Lit.int .i64 T).wf = true) (wU : (Lit.int .i64 Tau).wf = true) (wx : (Lit.int .i64 x).wf = true) (wy : (Lit.int .i64 y).wf = true) (wa : (Lit.int .u32 a).wf = true) (wb : (Lit.int .u32 b).wf = true) :
    Calls Try.prog 9 #[.agg #[.int .i64 T, .int .i64 Tau], .int .i64 x, .int .i64 y, .int .u32 a, .int .u32 b] w (ValEnd w (.bool true)) := by
  have b1 := bounds_i64 wT
  have b2 := bounds_i64 wU
  have b3 := bounds_i64 wx
  have b4 := bounds_i64 wy
  have b5 := bounds_u32 wa
  have b6 := bounds_u32 wb
  obtain ⟨a, rfl⟩ : ∃ k : Nat, a = (k : Int) := ⟨a.toNat, by omega⟩
  obtain ⟨b, rfl⟩ : ∃ k : Nat, b = (k : Int) := ⟨b.toNat, by omega⟩
  have HC := fun w => clamped_any w T Tau x y 0 (by omega) (by omega) (by omega) (by omega) (by omega)
  obtain ⟨t, ht, ht1, ht2⟩ := clamp_one T
  obtain ⟨u, hu, hu2⟩ := clamp_nat Tau
  obtain ⟨tat, hx, hx2⟩ := clamp_nat x
  obtain ⟨now, hn, hn2⟩ := clamp_nat y
  rw [ht, hu, hx, hn, clampV_zero] at HC
  have hp := parts (Tau := u) (a := a) (b := b) ht1 hx2 hn2
  have h1 := fun w => gDecide_nat w (n := a + b) ht1 ht2 hu2 hx2 hn2 (by omega)
  have h2 := fun w => gDecide_nat w (n := a) ht1 ht2 hu2 hx2 hn2 (by omega)
  have h3 := fun w => gDecide_nat w (n := b) ht1 ht2 hu2 (tatV_le (n := a) (Tau := u) ht1 hx2 hn2) hn2 (by omega)
  rw [Int.natCast_add] at h1
  have hq : grB t u tat now (a + b) = true → leftV t u (tatV t u tat now (a + b)) now = leftV t u (tatV t u (tatV t u tat now a) now b) now := fun h => by rw [hp.2 h]
  have hp1 := hp.1
  have hp2 := hp.2
  generalize leftV t u (tatV t u tat now (a + b)) now = l1 at *
  generalize leftV t u (tatV t u (tatV t u tat now a) now b) now = l3 at *
  generalize leftV t u (tatV t u tat now a) now = l2 at *
  generalize grB t u tat now (a + b) = g1 at *
  generalize grB t u (tatV t u tat now a) now b = g3 at *
  generalize grB t u tat now a = g2 at *
  generalize tatV t u tat now (a + b) = t1 at *
  generalize wtV t u tat now (a + b) = x1 at *
  generalize tatV t u (tatV t u tat now a) now b = t3 at *
  generalize wtV t u (tatV t u tat now a) now b = x3 at *
  generalize tatV t u tat now a = t2 at *
  generalize wtV t u tat now a = x2 at *
  subst hp1
  cases g2 <;> cases g3
  · exact gcraParts_nn T Tau x y w t u tat now a b t1 x1 l1 t2 x2 l2 t3 x3 l3 (by omega) (by omega) (Lib.hid awake5_any) (Lib.hid HC) (Lib.hid h1) (Lib.hid h2) (Lib.hid h3)
  · exact gcraParts_ny T Tau x y w t u tat now a b t1 x1 l1 t2 x2 l2 t3 x3 l3 (by omega) (by omega) (Lib.hid awake5_any) (Lib.hid HC) (Lib.hid h1) (Lib.hid h2) (Lib.hid h3)
  · exact gcraParts_yn T Tau x y w t u tat now a b t1 x1 l1 t2 x2 l2 t3 x3 l3 (by omega) (by omega) (Lib.hid awake5_any) (Lib.hid HC) (Lib.hid h1) (Lib.hid h2) (Lib.hid h3)
  · obtain rfl := hp2 rfl
    obtain rfl := hq rfl
    exact gcraParts_yy T Tau x y w t u tat now a b t1 x1 l1 t2 x2 l2 t1 x3 l1 (by omega) (by omega) (Lib.hid awake5_any) (Lib.hid HC) (Lib.hid h1) (Lib.hid h2) (Lib.hid h3)
end Go.Proofs.Ythigbhhhhebjeaa
