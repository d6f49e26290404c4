/- The law GcraWaits: its walk, by its ways. -/
import Derived.Test.YthigbhhhhebjeaaLaw5d
namespace Go.Proofs.Ythigbhhhhebjeaa
open Go.RowKit
set_option maxRecDepth 100000
set_option linter.unusedVariables false

set_option maxHeartbeats 1600000 in
theorem gcraWaits_zl (T Tau x y z : Int) (w : World) (t u tat now n : Nat) (l : Int)
    (HA : Hid (∀ w, Calls Try.prog 17 #[] w (ValEnd w (.bool true))))
    (HC : Hid (∀ w, Calls Try.prog 26 #[.agg #[.int .i64 T, .int .i64 Tau], .int .i64 x, .int .i64 y, .int .i64 z] w (ValEnd w (.tuple #[.agg #[.int .i64 (t : Int), .int .i64 (u : Int)], .int .i64 (tat : Int), .int .i64 (now : Int), .int .i64 (n : Int)]))))
    (HD : Hid (∀ w, Calls Try.prog 15 #[.agg #[.int .i64 (t : Int), .int .i64 (u : Int)], .int .i64 (tat : Int), .int .i64 (now : Int), .int .i64 (n : Int)] w (ValEnd w (.tuple #[.agg #[.bool true, .int .i64 (tat : Int), .int .i64 0, .int .i64 l], .int .i64 0]))))
    (HG1 : Hid (∀ w, Calls Try.prog 27 #[.agg #[.int .i64 (t : Int), .int .i64 (u : Int)], .int .i64 (tat : Int), .int .i64 (now : Int), .int .i64 l] w (ValEnd w (.tuple #[.bool true, .bool true]))))
    (HG2 : Hid (∀ w, Calls Try.prog 27 #[.agg #[.int .i64 (t : Int), .int .i64 (u : Int)], .int .i64 (tat : Int), .int .i64 (now : Int), .int .i64 (l + 1)] w (ValEnd w (.tuple #[.bool false, .bool true]))))
    (hl0 : 0 ≤ l)
    (hl : l ≤ 4611686018427387902)
    (hn : n = 0) :
    Calls Try.prog 6 #[.agg #[.int .i64 T, .int .i64 Tau], .int .i64 x, .int .i64 y, .int .i64 z] w (ValEnd w (.bool true)) := by
  have hl1 : decide (l < 4611686018427387903) = true := decide_eq_true (by omega)
  have hz : ((n : Int) == 0) = true := by simp; omega
  clear hn
  go_enter Try.func6, Try.ntmps6
  go_wp2_with fail
  with_reducible refine (HA.out _).mono ?_
  rintro e w1 ⟨rfl, hb⟩
  have Kl := (BlkL.new _ [.int .i64 T, .int .i64 Tau] 23).below hb
  try simp only [World.size_alloc] at Kl
  have HB1 := Lib.hid (((Below.refl w.heap.size w).alloc (by simp <;> omega) _).trans (hb.mono (by simp <;> omega)))
  clear hb
  have cl0 := Kl.cell 0 _ rfl
  have fl0 := Kl.froz 0 (by simp)
  have cl1 := Kl.cell 1 _ rfl
  have fl1 := Kl.froz 1 (by simp)
  have zl := Kl.lt
  have HKl1 := Lib.hid Kl
  clear Kl
  go_wp2_with fail
  with_reducible refine (HC.out _).mono ?_
  rintro e w2 ⟨rfl, hb⟩
  have Kl := HKl1.out.below hb
  have HB2 := Lib.hid (HB1.out.trans (hb.mono (by have := HB1.out.size; simp <;> omega)))
  clear hb cl0 fl0 cl1 fl1 zl
  have cl0 := Kl.cell 0 _ rfl
  have fl0 := Kl.froz 0 (by simp)
  have cl1 := Kl.cell 1 _ rfl
  have fl1 := Kl.froz 1 (by simp)
  have zl := Kl.lt
  have HKl2 := Lib.hid Kl
  clear Kl
  go_wp2_with fail
  with_reducible refine (HD.out _).mono ?_
  rintro e w3 ⟨rfl, hb⟩
  have Kl := ((HKl2.out.set 0 (.int .i64 (t : Int)) (by simp)).set 1 (.int .i64 (u : Int)) (by simp)).below hb
  simp only [List.set_cons_zero, List.set_cons_succ] at Kl
  have HB3 := Lib.hid (((HB2.out.setCell (p := ⟨w.heap.size, 0, none⟩) (by show w.heap.size ≤ w.heap.size; omega) (.int .i64 (t : Int))).setCell (p := ⟨w.heap.size, 1, none⟩) (by show w.heap.size ≤ w.heap.size; omega) (.int .i64 (u : Int))).trans (hb.mono (by have := HB2.out.size; simp <;> omega)))
  clear hb cl0 fl0 cl1 fl1 zl
  have cl0 := Kl.cell 0 _ rfl
  have cl1 := Kl.cell 1 _ rfl
  have zl := Kl.lt
  have HKl3 := Lib.hid Kl
  clear Kl
  go_wp2_with fail
  with_reducible refine (HG1.out _).mono ?_
  rintro e w4 ⟨rfl, hb⟩
  have Kl := (HKl3.out.alloc _).below hb
  have Ka := (BlkL.new _ [.bool true, .int .i64 (tat : Int), .int .i64 0, .int .i64 l] 25).below hb
  try simp only [World.size_alloc] at Ka
  have HB4 := Lib.hid ((HB3.out.alloc (by have := HB3.out.size; simp; omega) _).trans (hb.mono (by have := HB3.out.size; simp <;> omega)))
  clear hb cl0 cl1 zl
  have cl0 := Kl.cell 0 _ rfl
  have cl1 := Kl.cell 1 _ rfl
  have zl := Kl.lt
  have ca0 := Ka.cell 0 _ rfl
  have ca1 := Ka.cell 1 _ rfl
  have ca2 := Ka.cell 2 _ rfl
  have ca3 := Ka.cell 3 _ rfl
  have za := Ka.lt
  have HKl4 := Lib.hid Kl
  have HKa4 := Lib.hid Ka
  clear Kl Ka
  go_wp2_with fail
  with_reducible refine (HG2.out _).mono ?_
  rintro e w5 ⟨rfl, hb⟩
  have Kl := HKl4.out.below hb
  have Ka := HKa4.out.below hb
  have HB5 := Lib.hid (HB4.out.trans (hb.mono (by have := HB4.out.size; simp <;> omega)))
  clear hb cl0 cl1 zl ca0 ca1 ca2 ca3 za
  have cl0 := Kl.cell 0 _ rfl
  have cl1 := Kl.cell 1 _ rfl
  have zl := Kl.lt
  have ca0 := Ka.cell 0 _ rfl
  have ca1 := Ka.cell 1 _ rfl
  have ca2 := Ka.cell 2 _ rfl
  have ca3 := Ka.cell 3 _ rfl
  have za := Ka.lt
  have HKl5 := Lib.hid Kl
  have HKa5 := Lib.hid Ka
  clear Kl Ka
  go_wp2
  go_ret
  exact ⟨rfl, HB5.out⟩


set_option maxHeartbeats 1600000 in
theorem gcraWaits_zf (T Tau x y z : Int) (w : World) (t u tat now n : Nat)
    (HA : Hid (∀ w, Calls Try.prog 17 #[] w (ValEnd w (.bool true))))
    (HC : Hid (∀ w, Calls Try.prog 26 #[.agg #[.int .i64 T, .int .i64 Tau], .int .i64 x, .int .i64 y, .int .i64 z] w (ValEnd w (.tuple #[.agg #[.int .i64 (t : Int), .int .i64 (u : Int)], .int .i64 (tat : Int), .int .i64 (now : Int), .int .i64 (n : Int)]))))
    (HD : Hid (∀ w, Calls Try.prog 15 #[.agg #[.int .i64 (t : Int), .int .i64 (u : Int)], .int .i64 (tat : Int), .int .i64 (now : Int), .int .i64 (n : Int)] w (ValEnd w (.tuple #[.agg #[.bool true, .int .i64 (tat : Int), .int .i64 0, .int .i64 4611686018427387903], .int .i64 0]))))
    (HG1 : Hid (∀ w, Calls Try.prog 27 #[.agg #[.int .i64 (t : Int), .int .i64 (u : Int)], .int .i64 (tat : Int), .int .i64 (now : Int), .int .i64 4611686018427387903] w (ValEnd w (.tuple #[.bool true, .bool true]))))
    (hn : n = 0) :
    Calls Try.prog 6 #[.agg #[.int .i64 T, .int .i64 Tau], .int .i64 x, .int .i64 y, .int .i64 z] w (ValEnd w (.bool true)) := by
  have hz : ((n : Int) == 0) = true := by simp; omega
  clear hn
  go_enter Try.func6, Try.ntmps6
  go_wp2_with fail
  with_reducible refine (HA.out _).mono ?_
  rintro e w1 ⟨rfl, hb⟩
  have Kl := (BlkL.new _ [.int .i64 T, .int .i64 Tau] 23).below hb
  try simp only [World.size_alloc] at Kl
  have HB1 := Lib.hid (((Below.refl w.heap.size w).alloc (by simp <;> omega) _).trans (hb.mono (by simp <;> omega)))
  clear hb
  have cl0 := Kl.cell 0 _ rfl
  have fl0 := Kl.froz 0 (by simp)
  have cl1 := Kl.cell 1 _ rfl
  have fl1 := Kl.froz 1 (by simp)
  have zl := Kl.lt
  have HKl1 := Lib.hid Kl
  clear Kl
  go_wp2_with fail
  with_reducible refine (HC.out _).mono ?_
  rintro e w2 ⟨rfl, hb⟩
  have Kl := HKl1.out.below hb
  have HB2 := Lib.hid (HB1.out.trans (hb.mono (by have := HB1.out.size; simp <;> omega)))
  clear hb cl0 fl0 cl1 fl1 zl
  have cl0 := Kl.cell 0 _ rfl
  have fl0 := Kl.froz 0 (by simp)
  have cl1 := Kl.cell 1 _ rfl
  have fl1 := Kl.froz 1 (by simp)
  have zl := Kl.lt
  have HKl2 := Lib.hid Kl
  clear Kl
  go_wp2_with fail
  with_reducible refine (HD.out _).mono ?_
  rintro e w3 ⟨rfl, hb⟩
  have Kl := ((HKl2.out.set 0 (.int .i64 (t : Int)) (by simp)).set 1 (.int .i64 (u : Int)) (by simp)).below hb
  simp only [List.set_cons_zero, List.set_cons_succ] at Kl
  have HB3 := Lib.hid (((HB2.out.setCell (p := ⟨w.heap.size, 0, none⟩) (by show w.heap.size ≤ w.heap.size; omega) (.int .i64 (t : Int))).setCell (p := ⟨w.heap.size, 1, none⟩) (by show w.heap.size ≤ w.heap.size; omega) (.int .i64 (u : Int))).trans (hb.mono (by have := HB2.out.size; simp <;> omega)))
  clear hb cl0 fl0 cl1 fl1 zl
  have cl0 := Kl.cell 0 _ rfl
  have cl1 := Kl.cell 1 _ rfl
  have zl := Kl.lt
  have HKl3 := Lib.hid Kl
  clear Kl
  go_wp2_with fail
  with_reducible refine (HG1.out _).mono ?_
  rintro e w4 ⟨rfl, hb⟩
  have Kl := (HKl3.out.alloc _).below hb
  have Ka := (BlkL.new _ [.bool true, .int .i64 (tat : Int), .int .i64 0, .int .i64 4611686018427387903] 25).below hb
  try simp only [World.size_alloc] at Ka
  have HB4 := Lib.hid ((HB3.out.alloc (by have := HB3.out.size; simp; omega) _).trans (hb.mono (by have := HB3.out.size; simp <;> omega)))
  clear hb cl0 cl1 zl
  have cl0 := Kl.cell 0 _ rfl
  have cl1 := Kl.cell 1 _ rfl
  have zl := Kl.lt
  have ca0 := Ka.cell 0 _ rfl
  have ca1 := Ka.cell 1 _ rfl
  have ca2 := Ka.cell 2 _ rfl
  have ca3 := Ka.cell 3 _ rfl
  have za := Ka.lt
  have HKl4 := Lib.hid Kl
  have HKa4 := Lib.hid Ka
  clear Kl Ka
  go_wp2
  go_ret
  exact ⟨rfl, HB4.out⟩


set_option maxHeartbeats 1600000 in
theorem gcraWaits_yl (T Tau x y z : Int) (w : World) (t u tat now n t2 : Nat) (l : Int)
    (HA : Hid (∀ w, Calls Try.prog 17 #[] w (ValEnd w (.bool true))))
    (HC : Hid (∀ w, Calls Try.prog 26 #[.agg #[.int .i64 T, .int .i64 Tau], .int .i64 x, .int .i64 y, .int .i64 z] w (ValEnd w (.tuple #[.agg #[.int .i64 (t : Int), .int .i64 (u : Int)], .int .i64 (tat : Int), .int .i64 (now : Int), .int .i64 (n : Int)]))))
    (HD : Hid (∀ w, Calls Try.prog 15 #[.agg #[.int .i64 (t : Int), .int .i64 (u : Int)], .int .i64 (tat : Int), .int .i64 (now : Int), .int .i64 (n : Int)] w (ValEnd w (.tuple #[.agg #[.bool true, .int .i64 (t2 : Int), .int .i64 0, .int .i64 l], .int .i64 0]))))
    (HG1 : Hid (∀ w, Calls Try.prog 27 #[.agg #[.int .i64 (t : Int), .int .i64 (u : Int)], .int .i64 (t2 : Int), .int .i64 (now : Int), .int .i64 l] w (ValEnd w (.tuple #[.bool true, .bool true]))))
    (HG2 : Hid (∀ w, Calls Try.prog 27 #[.agg #[.int .i64 (t : Int), .int .i64 (u : Int)], .int .i64 (t2 : Int), .int .i64 (now : Int), .int .i64 (l + 1)] w (ValEnd w (.tuple #[.bool false, .bool true]))))
    (hl0 : 0 ≤ l)
    (hl : l ≤ 4611686018427387902)
    (hn : 0 < n)
    (B r : Nat)
    (hm : (if tat < now then (now : Int) else (tat : Int)) = (B : Int))
    (e1 : (n : Int) * (t : Int) = (r : Int))
    (e2 : (B : Int) + (r : Int) = (t2 : Int))
    (ht2 : t2 ≤ 4611686018427387903) :
    Calls Try.prog 6 #[.agg #[.int .i64 T, .int .i64 Tau], .int .i64 x, .int .i64 y, .int .i64 z] w (ValEnd w (.bool true)) := by
  have hl1 : decide (l < 4611686018427387903) = true := decide_eq_true (by omega)
  have hz : ((n : Int) == 0) = false := by simp; omega
  have b1 : (r : Int) ≤ 4611686018427387903 := by omega
  have b2 : (B : Int) ≤ 4611686018427387903 := by omega
  go_enter Try.func6, Try.ntmps6
  go_wp2_with fail
  with_reducible refine (HA.out _).mono ?_
  rintro e w1 ⟨rfl, hb⟩
  have Kl := (BlkL.new _ [.int .i64 T, .int .i64 Tau] 23).below hb
  try simp only [World.size_alloc] at Kl
  have HB1 := Lib.hid (((Below.refl w.heap.size w).alloc (by simp <;> omega) _).trans (hb.mono (by simp <;> omega)))
  clear hb
  have cl0 := Kl.cell 0 _ rfl
  have fl0 := Kl.froz 0 (by simp)
  have cl1 := Kl.cell 1 _ rfl
  have fl1 := Kl.froz 1 (by simp)
  have zl := Kl.lt
  have HKl1 := Lib.hid Kl
  clear Kl
  go_wp2_with fail
  with_reducible refine (HC.out _).mono ?_
  rintro e w2 ⟨rfl, hb⟩
  have Kl := HKl1.out.below hb
  have HB2 := Lib.hid (HB1.out.trans (hb.mono (by have := HB1.out.size; simp <;> omega)))
  clear hb cl0 fl0 cl1 fl1 zl
  have cl0 := Kl.cell 0 _ rfl
  have fl0 := Kl.froz 0 (by simp)
  have cl1 := Kl.cell 1 _ rfl
  have fl1 := Kl.froz 1 (by simp)
  have zl := Kl.lt
  have HKl2 := Lib.hid Kl
  clear Kl
  go_wp2_with fail
  with_reducible refine (HD.out _).mono ?_
  rintro e w3 ⟨rfl, hb⟩
  have Kl := ((HKl2.out.set 0 (.int .i64 (t : Int)) (by simp)).set 1 (.int .i64 (u : Int)) (by simp)).below hb
  simp only [List.set_cons_zero, List.set_cons_succ] at Kl
  have HB3 := Lib.hid (((HB2.out.setCell (p := ⟨w.heap.size, 0, none⟩) (by show w.heap.size ≤ w.heap.size; omega) (.int .i64 (t : Int))).setCell (p := ⟨w.heap.size, 1, none⟩) (by show w.heap.size ≤ w.heap.size; omega) (.int .i64 (u : Int))).trans (hb.mono (by have := HB2.out.size; simp <;> omega)))
  clear hb cl0 fl0 cl1 fl1 zl
  have cl0 := Kl.cell 0 _ rfl
  have cl1 := Kl.cell 1 _ rfl
  have zl := Kl.lt
  have HKl3 := Lib.hid Kl
  clear Kl
  go_wp2_with fail
  with_reducible refine (HG1.out _).mono ?_
  rintro e w4 ⟨rfl, hb⟩
  have Kl := (HKl3.out.alloc _).below hb
  have Ka := (BlkL.new _ [.bool true, .int .i64 (t2 : Int), .int .i64 0, .int .i64 l] 25).below hb
  try simp only [World.size_alloc] at Ka
  have HB4 := Lib.hid ((HB3.out.alloc (by have := HB3.out.size; simp; omega) _).trans (hb.mono (by have := HB3.out.size; simp <;> omega)))
  clear hb cl0 cl1 zl
  have cl0 := Kl.cell 0 _ rfl
  have cl1 := Kl.cell 1 _ rfl
  have zl := Kl.lt
  have ca0 := Ka.cell 0 _ rfl
  have ca1 := Ka.cell 1 _ rfl
  have ca2 := Ka.cell 2 _ rfl
  have ca3 := Ka.cell 3 _ rfl
  have za := Ka.lt
  have HKl4 := Lib.hid Kl
  have HKa4 := Lib.hid Ka
  clear Kl Ka
  go_wp2_with fail
  with_reducible refine (HG2.out _).mono ?_
  rintro e w5 ⟨rfl, hb⟩
  have Kl := HKl4.out.below hb
  have Ka := HKa4.out.below hb
  have HB5 := Lib.hid (HB4.out.trans (hb.mono (by have := HB4.out.size; simp <;> omega)))
  clear hb cl0 cl1 zl ca0 ca1 ca2 ca3 za
  have cl0 := Kl.cell 0 _ rfl
  have cl1 := Kl.cell 1 _ rfl
  have zl := Kl.lt
  have ca0 := Ka.cell 0 _ rfl
  have ca1 := Ka.cell 1 _ rfl
  have ca2 := Ka.cell 2 _ rfl
  have ca3 := Ka.cell 3 _ rfl
  have za := Ka.lt
  have HKl5 := Lib.hid Kl
  have HKa5 := Lib.hid Ka
  clear Kl Ka
  go_wp2
  go_ret
  exact ⟨rfl, HB5.out⟩


set_option maxHeartbeats 1600000 in
theorem gcraWaits_yf (T Tau x y z : Int) (w : World) (t u tat now n t2 : Nat)
    (HA : Hid (∀ w, Calls Try.prog 17 #[] w (ValEnd w (.bool true))))
    (HC : Hid (∀ w, Calls Try.prog 26 #[.agg #[.int .i64 T, .int .i64 Tau], .int .i64 x, .int .i64 y, .int .i64 z] w (ValEnd w (.tuple #[.agg #[.int .i64 (t : Int), .int .i64 (u : Int)], .int .i64 (tat : Int), .int .i64 (now : Int), .int .i64 (n : Int)]))))
    (HD : Hid (∀ w, Calls Try.prog 15 #[.agg #[.int .i64 (t : Int), .int .i64 (u : Int)], .int .i64 (tat : Int), .int .i64 (now : Int), .int .i64 (n : Int)] w (ValEnd w (.tuple #[.agg #[.bool true, .int .i64 (t2 : Int), .int .i64 0, .int .i64 4611686018427387903], .int .i64 0]))))
    (HG1 : Hid (∀ w, Calls Try.prog 27 #[.agg #[.int .i64 (t : Int), .int .i64 (u : Int)], .int .i64 (t2 : Int), .int .i64 (now : Int), .int .i64 4611686018427387903] w (ValEnd w (.tuple #[.bool true, .bool true]))))
    (hn : 0 < n)
    (B r : Nat)
    (hm : (if tat < now then (now : Int) else (tat : Int)) = (B : Int))
    (e1 : (n : Int) * (t : Int) = (r : Int))
    (e2 : (B : Int) + (r : Int) = (t2 : Int))
    (ht2 : t2 ≤ 4611686018427387903) :
    Calls Try.prog 6 #[.agg #[.int .i64 T, .int .i64 Tau], .int .i64 x, .int .i64 y, .int .i64 z] w (ValEnd w (.bool true)) := by
  have hz : ((n : Int) == 0) = false := by simp; omega
  have b1 : (r : Int) ≤ 4611686018427387903 := by omega
  have b2 : (B : Int) ≤ 4611686018427387903 := by omega
  go_enter Try.func6, Try.ntmps6
  go_wp2_with fail
  with_reducible refine (HA.out _).mono ?_
  rintro e w1 ⟨rfl, hb⟩
  have Kl := (BlkL.new _ [.int .i64 T, .int .i64 Tau] 23).below hb
  try simp only [World.size_alloc] at Kl
  have HB1 := Lib.hid (((Below.refl w.heap.size w).alloc (by simp <;> omega) _).trans (hb.mono (by simp <;> omega)))
  clear hb
  have cl0 := Kl.cell 0 _ rfl
  have fl0 := Kl.froz 0 (by simp)
  have cl1 := Kl.cell 1 _ rfl
  have fl1 := Kl.froz 1 (by simp)
  have zl := Kl.lt
  have HKl1 := Lib.hid Kl
  clear Kl
  go_wp2_with fail
  with_reducible refine (HC.out _).mono ?_
  rintro e w2 ⟨rfl, hb⟩
  have Kl := HKl1.out.below hb
  have HB2 := Lib.hid (HB1.out.trans (hb.mono (by have := HB1.out.size; simp <;> omega)))
  clear hb cl0 fl0 cl1 fl1 zl
  have cl0 := Kl.cell 0 _ rfl
  have fl0 := Kl.froz 0 (by simp)
  have cl1 := Kl.cell 1 _ rfl
  have fl1 := Kl.froz 1 (by simp)
  have zl := Kl.lt
  have HKl2 := Lib.hid Kl
  clear Kl
  go_wp2_with fail
  with_reducible refine (HD.out _).mono ?_
  rintro e w3 ⟨rfl, hb⟩
  have Kl := ((HKl2.out.set 0 (.int .i64 (t : Int)) (by simp)).set 1 (.int .i64 (u : Int)) (by simp)).below hb
  simp only [List.set_cons_zero, List.set_cons_succ] at Kl
  have HB3 := Lib.hid (((HB2.out.setCell (p := ⟨w.heap.size, 0, none⟩) (by show w.heap.size ≤ w.heap.size; omega) (.int .i64 (t : Int))).setCell (p := ⟨w.heap.size, 1, none⟩) (by show w.heap.size ≤ w.heap.size; omega) (.int .i64 (u : Int))).trans (hb.mono (by have := HB2.out.size; simp <;> omega)))
  clear hb cl0 fl0 cl1 fl1 zl
  have cl0 := Kl.cell 0 _ rfl
  have cl1 := Kl.cell 1 _ rfl
  have zl := Kl.lt
  have HKl3 := Lib.hid Kl
  clear Kl
  go_wp2_with fail
  with_reducible refine (HG1.out _).mono ?_
  rintro e w4 ⟨rfl, hb⟩
  have Kl := (HKl3.out.alloc _).below hb
  have Ka := (BlkL.new _ [.bool true, .int .i64 (t2 : Int), .int .i64 0, .int .i64 4611686018427387903] 25).below hb
  try simp only [World.size_alloc] at Ka
  have HB4 := Lib.hid ((HB3.out.alloc (by have := HB3.out.size; simp; omega) _).trans (hb.mono (by have := HB3.out.size; simp <;> omega)))
  clear hb cl0 cl1 zl
  have cl0 := Kl.cell 0 _ rfl
  have cl1 := Kl.cell 1 _ rfl
  have zl := Kl.lt
  have ca0 := Ka.cell 0 _ rfl
  have ca1 := Ka.cell 1 _ rfl
  have ca2 := Ka.cell 2 _ rfl
  have ca3 := Ka.cell 3 _ rfl
  have za := Ka.lt
  have HKl4 := Lib.hid Kl
  have HKa4 := Lib.hid Ka
  clear Kl Ka
  go_wp2
  go_ret
  exact ⟨rfl, HB4.out⟩


set_option maxHeartbeats 1600000 in
theorem gcraWaits_el (T Tau x y z : Int) (w : World) (t u tat now n x2 : Nat) (l : Int)
    (HA : Hid (∀ w, Calls Try.prog 17 #[] w (ValEnd w (.bool true))))
    (HC : Hid (∀ w, Calls Try.prog 26 #[.agg #[.int .i64 T, .int .i64 Tau], .int .i64 x, .int .i64 y, .int .i64 z] w (ValEnd w (.tuple #[.agg #[.int .i64 (t : Int), .int .i64 (u : Int)], .int .i64 (tat : Int), .int .i64 (now : Int), .int .i64 (n : Int)]))))
    (HD : Hid (∀ w, Calls Try.prog 15 #[.agg #[.int .i64 (t : Int), .int .i64 (u : Int)], .int .i64 (tat : Int), .int .i64 (now : Int), .int .i64 (n : Int)] w (ValEnd w (.tuple #[.agg #[.bool false, .int .i64 (tat : Int), .int .i64 (x2 : Int), .int .i64 l], .int .i64 0]))))
    (HG1 : Hid (∀ w, Calls Try.prog 27 #[.agg #[.int .i64 (t : Int), .int .i64 (u : Int)], .int .i64 (tat : Int), .int .i64 (now : Int), .int .i64 l] w (ValEnd w (.tuple #[.bool true, .bool true]))))
    (HG2 : Hid (∀ w, Calls Try.prog 27 #[.agg #[.int .i64 (t : Int), .int .i64 (u : Int)], .int .i64 (tat : Int), .int .i64 (now : Int), .int .i64 (l + 1)] w (ValEnd w (.tuple #[.bool false, .bool true]))))
    (hl0 : 0 ≤ l)
    (hl : l ≤ 4611686018427387902)
    (hx : 1 ≤ x2)
    (hx2 : (now : Int) + (x2 : Int) ≤ 4611686018427387903)
    (hxm : x2 < 4611686018427387903)
    (HG3 : Hid (∀ w, Calls Try.prog 27 #[.agg #[.int .i64 (t : Int), .int .i64 (u : Int)], .int .i64 (tat : Int), .int .i64 ((now : Int) + (x2 : Int)), .int .i64 (n : Int)] w (ValEnd w (.tuple #[.bool true, .bool true]))))
    (HG4 : Hid (∀ w, Calls Try.prog 27 #[.agg #[.int .i64 (t : Int), .int .i64 (u : Int)], .int .i64 (tat : Int), .int .i64 ((now : Int) + (x2 : Int) - 1), .int .i64 (n : Int)] w (ValEnd w (.tuple #[.bool false, .bool true])))) :
    Calls Try.prog 6 #[.agg #[.int .i64 T, .int .i64 Tau], .int .i64 x, .int .i64 y, .int .i64 z] w (ValEnd w (.bool true)) := by
  have hl1 : decide (l < 4611686018427387903) = true := decide_eq_true (by omega)
  have hq0 : ((x2 : Int) == 0) = false := by simp; omega
  have hx0 : (1 : Int) ≤ x2 := by omega
  have hw0 : (0 : Int) ≤ now := by omega
  have hw1 : (now : Int) ≤ 4611686018427387903 := by omega
  have hq : ((x2 : Int) == 4611686018427387903) = false := by simp; omega
  have hq2 : decide ((4611686018427387903 : Int) - (now : Int) < (x2 : Int)) = false := decide_eq_false (by omega)
  go_enter Try.func6, Try.ntmps6
  go_wp2_with fail
  with_reducible refine (HA.out _).mono ?_
  rintro e w1 ⟨rfl, hb⟩
  have Kl := (BlkL.new _ [.int .i64 T, .int .i64 Tau] 23).below hb
  try simp only [World.size_alloc] at Kl
  have HB1 := Lib.hid (((Below.refl w.heap.size w).alloc (by simp <;> omega) _).trans (hb.mono (by simp <;> omega)))
  clear hb
  have cl0 := Kl.cell 0 _ rfl
  have fl0 := Kl.froz 0 (by simp)
  have cl1 := Kl.cell 1 _ rfl
  have fl1 := Kl.froz 1 (by simp)
  have zl := Kl.lt
  have HKl1 := Lib.hid Kl
  clear Kl
  go_wp2_with fail
  with_reducible refine (HC.out _).mono ?_
  rintro e w2 ⟨rfl, hb⟩
  have Kl := HKl1.out.below hb
  have HB2 := Lib.hid (HB1.out.trans (hb.mono (by have := HB1.out.size; simp <;> omega)))
  clear hb cl0 fl0 cl1 fl1 zl
  have cl0 := Kl.cell 0 _ rfl
  have fl0 := Kl.froz 0 (by simp)
  have cl1 := Kl.cell 1 _ rfl
  have fl1 := Kl.froz 1 (by simp)
  have zl := Kl.lt
  have HKl2 := Lib.hid Kl
  clear Kl
  go_wp2_with fail
  with_reducible refine (HD.out _).mono ?_
  rintro e w3 ⟨rfl, hb⟩
  have Kl := ((HKl2.out.set 0 (.int .i64 (t : Int)) (by simp)).set 1 (.int .i64 (u : Int)) (by simp)).below hb
  simp only [List.set_cons_zero, List.set_cons_succ] at Kl
  have HB3 := Lib.hid (((HB2.out.setCell (p := ⟨w.heap.size, 0, none⟩) (by show w.heap.size ≤ w.heap.size; omega) (.int .i64 (t : Int))).setCell (p := ⟨w.heap.size, 1, none⟩) (by show w.heap.size ≤ w.heap.size; omega) (.int .i64 (u : Int))).trans (hb.mono (by have := HB2.out.size; simp <;> omega)))
  clear hb cl0 fl0 cl1 fl1 zl
  have cl0 := Kl.cell 0 _ rfl
  have cl1 := Kl.cell 1 _ rfl
  have zl := Kl.lt
  have HKl3 := Lib.hid Kl
  clear Kl
  go_wp2_with fail
  with_reducible refine (HG1.out _).mono ?_
  rintro e w4 ⟨rfl, hb⟩
  have Kl := (HKl3.out.alloc _).below hb
  have Ka := (BlkL.new _ [.bool false, .int .i64 (tat : Int), .int .i64 (x2 : Int), .int .i64 l] 25).below hb
  try simp only [World.size_alloc] at Ka
  have HB4 := Lib.hid ((HB3.out.alloc (by have := HB3.out.size; simp; omega) _).trans (hb.mono (by have := HB3.out.size; simp <;> omega)))
  clear hb cl0 cl1 zl
  have cl0 := Kl.cell 0 _ rfl
  have cl1 := Kl.cell 1 _ rfl
  have zl := Kl.lt
  have ca0 := Ka.cell 0 _ rfl
  have ca1 := Ka.cell 1 _ rfl
  have ca2 := Ka.cell 2 _ rfl
  have ca3 := Ka.cell 3 _ rfl
  have za := Ka.lt
  have HKl4 := Lib.hid Kl
  have HKa4 := Lib.hid Ka
  clear Kl Ka
  go_wp2_with fail
  with_reducible refine (HG2.out _).mono ?_
  rintro e w5 ⟨rfl, hb⟩
  have Kl := HKl4.out.below hb
  have Ka := HKa4.out.below hb
  have HB5 := Lib.hid (HB4.out.trans (hb.mono (by have := HB4.out.size; simp <;> omega)))
  clear hb cl0 cl1 zl ca0 ca1 ca2 ca3 za
  have cl0 := Kl.cell 0 _ rfl
  have cl1 := Kl.cell 1 _ rfl
  have zl := Kl.lt
  have ca0 := Ka.cell 0 _ rfl
  have ca1 := Ka.cell 1 _ rfl
  have ca2 := Ka.cell 2 _ rfl
  have ca3 := Ka.cell 3 _ rfl
  have za := Ka.lt
  have HKl5 := Lib.hid Kl
  have HKa5 := Lib.hid Ka
  clear Kl Ka
  go_wp2_with fail
  with_reducible refine (HG3.out _).mono ?_
  rintro e w6 ⟨rfl, hb⟩
  have Kl := HKl5.out.below hb
  have Ka := HKa5.out.below hb
  have HB6 := Lib.hid (HB5.out.trans (hb.mono (by have := HB5.out.size; simp <;> omega)))
  clear hb cl0 cl1 zl ca0 ca1 ca2 ca3 za
  have cl0 := Kl.cell 0 _ rfl
  have cl1 := Kl.cell 1 _ rfl
  have zl := Kl.lt
  have ca0 := Ka.cell 0 _ rfl
  have ca1 := Ka.cell 1 _ rfl
  have ca2 := Ka.cell 2 _ rfl
  have ca3 := Ka.cell 3 _ rfl
  have za := Ka.lt
  have HKl6 := Lib.hid Kl
  have HKa6 := Lib.hid Ka
  clear Kl Ka
  go_wp2_with fail
  with_reducible refine (HG4.out _).mono ?_
  rintro e w7 ⟨rfl, hb⟩
  have Kl := HKl6.out.below hb
  have Ka := HKa6.out.below hb
  have HB7 := Lib.hid (HB6.out.trans (hb.mono (by have := HB6.out.size; simp <;> omega)))
  clear hb cl0 cl1 zl ca0 ca1 ca2 ca3 za
  have HKl7 := Lib.hid Kl
  have HKa7 := Lib.hid Ka
  clear Kl Ka
  go_wp2
  go_ret
  exact ⟨rfl, HB7.out⟩


set_option maxHeartbeats 1600000 in
theorem gcraWaits_ef (T Tau x y z : Int) (w : World) (t u tat now n x2 : Nat)
    (HA : Hid (∀ w, Calls Try.prog 17 #[] w (ValEnd w (.bool true))))
    (HC : Hid (∀ w, Calls Try.prog 26 #[.agg #[.int .i64 T, .int .i64 Tau], .int .i64 x, .int .i64 y, .int .i64 z] w (ValEnd w (.tuple #[.agg #[.int .i64 (t : Int), .int .i64 (u : Int)], .int .i64 (tat : Int), .int .i64 (now : Int), .int .i64 (n : Int)]))))
    (HD : Hid (∀ w, Calls Try.prog 15 #[.agg #[.int .i64 (t : Int), .int .i64 (u : Int)], .int .i64 (tat : Int), .int .i64 (now : Int), .int .i64 (n : Int)] w (ValEnd w (.tuple #[.agg #[.bool false, .int .i64 (tat : Int), .int .i64 (x2 : Int), .int .i64 4611686018427387903], .int .i64 0]))))
    (HG1 : Hid (∀ w, Calls Try.prog 27 #[.agg #[.int .i64 (t : Int), .int .i64 (u : Int)], .int .i64 (tat : Int), .int .i64 (now : Int), .int .i64 4611686018427387903] w (ValEnd w (.tuple #[.bool true, .bool true]))))
    (hx : 1 ≤ x2)
    (hx2 : (now : Int) + (x2 : Int) ≤ 4611686018427387903)
    (hxm : x2 < 4611686018427387903)
    (HG3 : Hid (∀ w, Calls Try.prog 27 #[.agg #[.int .i64 (t : Int), .int .i64 (u : Int)], .int .i64 (tat : Int), .int .i64 ((now : Int) + (x2 : Int)), .int .i64 (n : Int)] w (ValEnd w (.tuple #[.bool true, .bool true]))))
    (HG4 : Hid (∀ w, Calls Try.prog 27 #[.agg #[.int .i64 (t : Int), .int .i64 (u : Int)], .int .i64 (tat : Int), .int .i64 ((now : Int) + (x2 : Int) - 1), .int .i64 (n : Int)] w (ValEnd w (.tuple #[.bool false, .bool true])))) :
    Calls Try.prog 6 #[.agg #[.int .i64 T, .int .i64 Tau], .int .i64 x, .int .i64 y, .int .i64 z] w (ValEnd w (.bool true)) := by
  have hq0 : ((x2 : Int) == 0) = false := by simp; omega
  have hx0 : (1 : Int) ≤ x2 := by omega
  have hw0 : (0 : Int) ≤ now := by omega
  have hw1 : (now : Int) ≤ 4611686018427387903 := by omega
  have hq : ((x2 : Int) == 4611686018427387903) = false := by simp; omega
  have hq2 : decide ((4611686018427387903 : Int) - (now : Int) < (x2 : Int)) = false := decide_eq_false (by omega)
  go_enter Try.func6, Try.ntmps6
  go_wp2_with fail
  with_reducible refine (HA.out _).mono ?_
  rintro e w1 ⟨rfl, hb⟩
  have Kl := (BlkL.new _ [.int .i64 T, .int .i64 Tau] 23).below hb
  try simp only [World.size_alloc] at Kl
  have HB1 := Lib.hid (((Below.refl w.heap.size w).alloc (by simp <;> omega) _).trans (hb.mono (by simp <;> omega)))
  clear hb
  have cl0 := Kl.cell 0 _ rfl
  have fl0 := Kl.froz 0 (by simp)
  have cl1 := Kl.cell 1 _ rfl
  have fl1 := Kl.froz 1 (by simp)
  have zl := Kl.lt
  have HKl1 := Lib.hid Kl
  clear Kl
  go_wp2_with fail
  with_reducible refine (HC.out _).mono ?_
  rintro e w2 ⟨rfl, hb⟩
  have Kl := HKl1.out.below hb
  have HB2 := Lib.hid (HB1.out.trans (hb.mono (by have := HB1.out.size; simp <;> omega)))
  clear hb cl0 fl0 cl1 fl1 zl
  have cl0 := Kl.cell 0 _ rfl
  have fl0 := Kl.froz 0 (by simp)
  have cl1 := Kl.cell 1 _ rfl
  have fl1 := Kl.froz 1 (by simp)
  have zl := Kl.lt
  have HKl2 := Lib.hid Kl
  clear Kl
  go_wp2_with fail
  with_reducible refine (HD.out _).mono ?_
  rintro e w3 ⟨rfl, hb⟩
  have Kl := ((HKl2.out.set 0 (.int .i64 (t : Int)) (by simp)).set 1 (.int .i64 (u : Int)) (by simp)).below hb
  simp only [List.set_cons_zero, List.set_cons_succ] at Kl
  have HB3 := Lib.hid (((HB2.out.setCell (p := ⟨w.heap.size, 0, none⟩) (by show w.heap.size ≤ w.heap.size; omega) (.int .i64 (t : Int))).setCell (p := ⟨w.heap.size, 1, none⟩) (by show w.heap.size ≤ w.heap.size; omega) (.int .i64 (u : Int))).trans (hb.mono (by have := HB2.out.size; simp <;> omega)))
  clear hb cl0 fl0 cl1 fl1 zl
  have cl0 := Kl.cell 0 _ rfl
  have cl1 := Kl.cell 1 _ rfl
  have zl := Kl.lt
  have HKl3 := Lib.hid Kl
  clear Kl
  go_wp2_with fail
  with_reducible refine (HG1.out _).mono ?_
  rintro e w4 ⟨rfl, hb⟩
  have Kl := (HKl3.out.alloc _).below hb
  have Ka := (BlkL.new _ [.bool false, .int .i64 (tat : Int), .int .i64 (x2 : Int), .int .i64 4611686018427387903] 25).below hb
  try simp only [World.size_alloc] at Ka
  have HB4 := Lib.hid ((HB3.out.alloc (by have := HB3.out.size; simp; omega) _).trans (hb.mono (by have := HB3.out.size; simp <;> omega)))
  clear hb cl0 cl1 zl
  have cl0 := Kl.cell 0 _ rfl
  have cl1 := Kl.cell 1 _ rfl
  have zl := Kl.lt
  have ca0 := Ka.cell 0 _ rfl
  have ca1 := Ka.cell 1 _ rfl
  have ca2 := Ka.cell 2 _ rfl
  have ca3 := Ka.cell 3 _ rfl
  have za := Ka.lt
  have HKl4 := Lib.hid Kl
  have HKa4 := Lib.hid Ka
  clear Kl Ka
  go_wp2_with fail
  with_reducible refine (HG3.out _).mono ?_
  rintro e w5 ⟨rfl, hb⟩
  have Kl := HKl4.out.below hb
  have Ka := HKa4.out.below hb
  have HB5 := Lib.hid (HB4.out.trans (hb.mono (by have := HB4.out.size; simp <;> omega)))
  clear hb cl0 cl1 zl ca0 ca1 ca2 ca3 za
  have cl0 := Kl.cell 0 _ rfl
  have cl1 := Kl.cell 1 _ rfl
  have zl := Kl.lt
  have ca0 := Ka.cell 0 _ rfl
  have ca1 := Ka.cell 1 _ rfl
  have ca2 := Ka.cell 2 _ rfl
  have ca3 := Ka.cell 3 _ rfl
  have za := Ka.lt
  have HKl5 := Lib.hid Kl
  have HKa5 := Lib.hid Ka
  clear Kl Ka
  go_wp2_with fail
  with_reducible refine (HG4.out _).mono ?_
  rintro e w6 ⟨rfl, hb⟩
  have Kl := HKl5.out.below hb
  have Ka := HKa5.out.below hb
  have HB6 := Lib.hid (HB5.out.trans (hb.mono (by have := HB5.out.size; simp <;> omega)))
  clear hb cl0 cl1 zl ca0 ca1 ca2 ca3 za
  have HKl6 := Lib.hid Kl
  have HKa6 := Lib.hid Ka
  clear Kl Ka
  go_wp2
  go_ret
  exact ⟨rfl, HB6.out⟩


set_option maxHeartbeats 1600000 in
theorem gcraWaits_ml (T Tau x y z : Int) (w : World) (t u tat now n x2 : Nat) (l : Int)
    (HA : Hid (∀ w, Calls Try.prog 17 #[] w (ValEnd w (.bool true))))
    (HC : Hid (∀ w, Calls Try.prog 26 #[.agg #[.int .i64 T, .int .i64 Tau], .int .i64 x, .int .i64 y, .int .i64 z] w (ValEnd w (.tuple #[.agg #[.int .i64 (t : Int), .int .i64 (u : Int)], .int .i64 (tat : Int), .int .i64 (now : Int), .int .i64 (n : Int)]))))
    (HD : Hid (∀ w, Calls Try.prog 15 #[.agg #[.int .i64 (t : Int), .int .i64 (u : Int)], .int .i64 (tat : Int), .int .i64 (now : Int), .int .i64 (n : Int)] w (ValEnd w (.tuple #[.agg #[.bool false, .int .i64 (tat : Int), .int .i64 (x2 : Int), .int .i64 l], .int .i64 0]))))
    (HG1 : Hid (∀ w, Calls Try.prog 27 #[.agg #[.int .i64 (t : Int), .int .i64 (u : Int)], .int .i64 (tat : Int), .int .i64 (now : Int), .int .i64 l] w (ValEnd w (.tuple #[.bool true, .bool true]))))
    (HG2 : Hid (∀ w, Calls Try.prog 27 #[.agg #[.int .i64 (t : Int), .int .i64 (u : Int)], .int .i64 (tat : Int), .int .i64 (now : Int), .int .i64 (l + 1)] w (ValEnd w (.tuple #[.bool false, .bool true]))))
    (hl0 : 0 ≤ l)
    (hl : l ≤ 4611686018427387902)
    (hx : (x2 : Int) = 4611686018427387903)
    (m : Nat)
    (hm : (if now < tat then (tat : Int) else (now : Int)) = (m : Int))
    (HG3 : Hid (∀ w, Calls Try.prog 27 #[.agg #[.int .i64 (t : Int), .int .i64 (u : Int)], .int .i64 (tat : Int), .int .i64 (now : Int), .int .i64 (n : Int)] w (ValEnd w (.tuple #[.bool false, .bool true]))))
    (HG4 : Hid (∀ w, Calls Try.prog 27 #[.agg #[.int .i64 (t : Int), .int .i64 (u : Int)], .int .i64 (tat : Int), .int .i64 (m : Int), .int .i64 (n : Int)] w (ValEnd w (.tuple #[.bool false, .bool true]))))
    (HG5 : Hid (∀ w, Calls Try.prog 27 #[.agg #[.int .i64 (t : Int), .int .i64 (u : Int)], .int .i64 (tat : Int), .int .i64 4611686018427387903, .int .i64 (n : Int)] w (ValEnd w (.tuple #[.bool false, .bool true])))) :
    Calls Try.prog 6 #[.agg #[.int .i64 T, .int .i64 Tau], .int .i64 x, .int .i64 y, .int .i64 z] w (ValEnd w (.bool true)) := by
  have hl1 : decide (l < 4611686018427387903) = true := decide_eq_true (by omega)
  have hq : ((x2 : Int) == 4611686018427387903) = true := by simp [hx]
  have hq0 : ((x2 : Int) == 0) = false := by simp; omega
  clear hx
  go_enter Try.func6, Try.ntmps6
  go_wp2_with fail
  with_reducible refine (HA.out _).mono ?_
  rintro e w1 ⟨rfl, hb⟩
  have Kl := (BlkL.new _ [.int .i64 T, .int .i64 Tau] 23).below hb
  try simp only [World.size_alloc] at Kl
  have HB1 := Lib.hid (((Below.refl w.heap.size w).alloc (by simp <;> omega) _).trans (hb.mono (by simp <;> omega)))
  clear hb
  have cl0 := Kl.cell 0 _ rfl
  have fl0 := Kl.froz 0 (by simp)
  have cl1 := Kl.cell 1 _ rfl
  have fl1 := Kl.froz 1 (by simp)
  have zl := Kl.lt
  have HKl1 := Lib.hid Kl
  clear Kl
  go_wp2_with fail
  with_reducible refine (HC.out _).mono ?_
  rintro e w2 ⟨rfl, hb⟩
  have Kl := HKl1.out.below hb
  have HB2 := Lib.hid (HB1.out.trans (hb.mono (by have := HB1.out.size; simp <;> omega)))
  clear hb cl0 fl0 cl1 fl1 zl
  have cl0 := Kl.cell 0 _ rfl
  have fl0 := Kl.froz 0 (by simp)
  have cl1 := Kl.cell 1 _ rfl
  have fl1 := Kl.froz 1 (by simp)
  have zl := Kl.lt
  have HKl2 := Lib.hid Kl
  clear Kl
  go_wp2_with fail
  with_reducible refine (HD.out _).mono ?_
  rintro e w3 ⟨rfl, hb⟩
  have Kl := ((HKl2.out.set 0 (.int .i64 (t : Int)) (by simp)).set 1 (.int .i64 (u : Int)) (by simp)).below hb
  simp only [List.set_cons_zero, List.set_cons_succ] at Kl
  have HB3 := Lib.hid (((HB2.out.setCell (p := ⟨w.heap.size, 0, none⟩) (by show w.heap.size ≤ w.heap.size; omega) (.int .i64 (t : Int))).setCell (p := ⟨w.heap.size, 1, none⟩) (by show w.heap.size ≤ w.heap.size; omega) (.int .i64 (u : Int))).trans (hb.mono (by have := HB2.out.size; simp <;> omega)))
  clear hb cl0 fl0 cl1 fl1 zl
  have cl0 := Kl.cell 0 _ rfl
  have cl1 := Kl.cell 1 _ rfl
  have zl := Kl.lt
  have HKl3 := Lib.hid Kl
  clear Kl
  go_wp2_with fail
  with_reducible refine (HG1.out _).mono ?_
  rintro e w4 ⟨rfl, hb⟩
  have Kl := (HKl3.out.alloc _).below hb
  have Ka := (BlkL.new _ [.bool false, .int .i64 (tat : Int), .int .i64 (x2 : Int), .int .i64 l] 25).below hb
  try simp only [World.size_alloc] at Ka
  have HB4 := Lib.hid ((HB3.out.alloc (by have := HB3.out.size; simp; omega) _).trans (hb.mono (by have := HB3.out.size; simp <;> omega)))
  clear hb cl0 cl1 zl
  have cl0 := Kl.cell 0 _ rfl
  have cl1 := Kl.cell 1 _ rfl
  have zl := Kl.lt
  have ca0 := Ka.cell 0 _ rfl
  have ca1 := Ka.cell 1 _ rfl
  have ca2 := Ka.cell 2 _ rfl
  have ca3 := Ka.cell 3 _ rfl
  have za := Ka.lt
  have HKl4 := Lib.hid Kl
  have HKa4 := Lib.hid Ka
  clear Kl Ka
  go_wp2_with fail
  with_reducible refine (HG2.out _).mono ?_
  rintro e w5 ⟨rfl, hb⟩
  have Kl := HKl4.out.below hb
  have Ka := HKa4.out.below hb
  have HB5 := Lib.hid (HB4.out.trans (hb.mono (by have := HB4.out.size; simp <;> omega)))
  clear hb cl0 cl1 zl ca0 ca1 ca2 ca3 za
  have cl0 := Kl.cell 0 _ rfl
  have cl1 := Kl.cell 1 _ rfl
  have zl := Kl.lt
  have ca0 := Ka.cell 0 _ rfl
  have ca1 := Ka.cell 1 _ rfl
  have ca2 := Ka.cell 2 _ rfl
  have ca3 := Ka.cell 3 _ rfl
  have za := Ka.lt
  have HKl5 := Lib.hid Kl
  have HKa5 := Lib.hid Ka
  clear Kl Ka
  go_wp2
  go_loopw [135] (fun i wr => ∃ k : Nat, k ≤ 3 ∧ i = .int .i64 k ∧ BlkL wr w.heap.size [.int .i64 (t : Int), .int .i64 (u : Int)] ∧ BlkL wr w5.heap.size [.int .i64 (now : Int), .int .i64 (m : Int), .int .i64 4611686018427387903] ∧ Below w.heap.size w wr) (fun i _ => 3 - (intOf i).toNat)
  case atStart => exact ⟨0, by omega, rfl, HKl5.out.alloc _, BlkL.new _ [_, _, _] _, HB5.out.alloc HB5.out.size _⟩
  case round =>
    obtain ⟨k, hk, rfl, bl, bi, hbw⟩ := hrel
    have HBW := Lib.hid hbw
    have HBL := Lib.hid bl
    have HBI := Lib.hid bi
    have d0 := bl.cell 0 _ rfl
    have d1 := bl.cell 1 _ rfl
    have i0 := bi.cell 0 _ rfl
    have i1 := bi.cell 1 _ rfl
    have i2 := bi.cell 2 _ rfl
    clear bl bi hbw
    by_cases h3 : k = 3
    · subst h3
      go_wp2
      go_ret
      exact ⟨rfl, HBW.out⟩
    · rcases (by omega : k = 0 ∨ k = 1 ∨ k = 2) with rfl | rfl | rfl
      · go_wp2_with fail
        with_reducible refine (HG3.out _).mono ?_
        rintro e w' ⟨rfl, hb⟩
        have HR := Lib.hid (show _ ∧ _ ∧ _ from ⟨HBL.out.below hb, HBI.out.below hb, HBW.out.trans (hb.mono HBW.out.size)⟩)
        clear hb d0 d1 i0 i1 i2
        go_wp2
        go_roundw
        case rel => exact ⟨1, by omega, by go_num, HR.out.1, HR.out.2.1, HR.out.2.2⟩
        case measure => simp [intOf] <;> omega
      · go_wp2_with fail
        with_reducible refine (HG4.out _).mono ?_
        rintro e w' ⟨rfl, hb⟩
        have HR := Lib.hid (show _ ∧ _ ∧ _ from ⟨HBL.out.below hb, HBI.out.below hb, HBW.out.trans (hb.mono HBW.out.size)⟩)
        clear hb d0 d1 i0 i1 i2
        go_wp2
        go_roundw
        case rel => exact ⟨2, by omega, by go_num, HR.out.1, HR.out.2.1, HR.out.2.2⟩
        case measure => simp [intOf] <;> omega
      · go_wp2_with fail
        with_reducible refine (HG5.out _).mono ?_
        rintro e w' ⟨rfl, hb⟩
        have HR := Lib.hid (show _ ∧ _ ∧ _ from ⟨HBL.out.below hb, HBI.out.below hb, HBW.out.trans (hb.mono HBW.out.size)⟩)
        clear hb d0 d1 i0 i1 i2
        go_wp2
        go_roundw
        case rel => exact ⟨3, by omega, by go_num, HR.out.1, HR.out.2.1, HR.out.2.2⟩
        case measure => simp [intOf] <;> omega


set_option maxHeartbeats 1600000 in
theorem gcraWaits_mf (T Tau x y z : Int) (w : World) (t u tat now n x2 : Nat)
    (HA : Hid (∀ w, Calls Try.prog 17 #[] w (ValEnd w (.bool true))))
    (HC : Hid (∀ w, Calls Try.prog 26 #[.agg #[.int .i64 T, .int .i64 Tau], .int .i64 x, .int .i64 y, .int .i64 z] w (ValEnd w (.tuple #[.agg #[.int .i64 (t : Int), .int .i64 (u : Int)], .int .i64 (tat : Int), .int .i64 (now : Int), .int .i64 (n : Int)]))))
    (HD : Hid (∀ w, Calls Try.prog 15 #[.agg #[.int .i64 (t : Int), .int .i64 (u : Int)], .int .i64 (tat : Int), .int .i64 (now : Int), .int .i64 (n : Int)] w (ValEnd w (.tuple #[.agg #[.bool false, .int .i64 (tat : Int), .int .i64 (x2 : Int), .int .i64 4611686018427387903], .int .i64 0]))))
    (HG1 : Hid (∀ w, Calls Try.prog 27 #[.agg #[.int .i64 (t : Int), .int .i64 (u : Int)], .int .i64 (tat : Int), .int .i64 (now : Int), .int .i64 4611686018427387903] w (ValEnd w (.tuple #[.bool true, .bool true]))))
    (hx : (x2 : Int) = 4611686018427387903)
    (m : Nat)
    (hm : (if now < tat then (tat : Int) else (now : Int)) = (m : Int))
    (HG3 : Hid (∀ w, Calls Try.prog 27 #[.agg #[.int .i64 (t : Int), .int .i64 (u : Int)], .int .i64 (tat : Int), .int .i64 (now : Int), .int .i64 (n : Int)] w (ValEnd w (.tuple #[.bool false, .bool true]))))
    (HG4 : Hid (∀ w, Calls Try.prog 27 #[.agg #[.int .i64 (t : Int), .int .i64 (u : Int)], .int .i64 (tat : Int), .int .i64 (m : Int), .int .i64 (n : Int)] w (ValEnd w (.tuple #[.bool false, .bool true]))))
    (HG5 : Hid (∀ w, Calls Try.prog 27 #[.agg #[.int .i64 (t : Int), .int .i64 (u : Int)], .int .i64 (tat : Int), .int .i64 4611686018427387903, .int .i64 (n : Int)] w (ValEnd w (.tuple #[.bool false, .bool true])))) :
    Calls Try.prog 6 #[.agg #[.int .i64 T, .int .i64 Tau], .int .i64 x, .int .i64 y, .int .i64 z] w (ValEnd w (.bool true)) := by
  have hq : ((x2 : Int) == 4611686018427387903) = true := by simp [hx]
  have hq0 : ((x2 : Int) == 0) = false := by simp; omega
  clear hx
  go_enter Try.func6, Try.ntmps6
  go_wp2_with fail
  with_reducible refine (HA.out _).mono ?_
  rintro e w1 ⟨rfl, hb⟩
  have Kl := (BlkL.new _ [.int .i64 T, .int .i64 Tau] 23).below hb
  try simp only [World.size_alloc] at Kl
  have HB1 := Lib.hid (((Below.refl w.heap.size w).alloc (by simp <;> omega) _).trans (hb.mono (by simp <;> omega)))
  clear hb
  have cl0 := Kl.cell 0 _ rfl
  have fl0 := Kl.froz 0 (by simp)
  have cl1 := Kl.cell 1 _ rfl
  have fl1 := Kl.froz 1 (by simp)
  have zl := Kl.lt
  have HKl1 := Lib.hid Kl
  clear Kl
  go_wp2_with fail
  with_reducible refine (HC.out _).mono ?_
  rintro e w2 ⟨rfl, hb⟩
  have Kl := HKl1.out.below hb
  have HB2 := Lib.hid (HB1.out.trans (hb.mono (by have := HB1.out.size; simp <;> omega)))
  clear hb cl0 fl0 cl1 fl1 zl
  have cl0 := Kl.cell 0 _ rfl
  have fl0 := Kl.froz 0 (by simp)
  have cl1 := Kl.cell 1 _ rfl
  have fl1 := Kl.froz 1 (by simp)
  have zl := Kl.lt
  have HKl2 := Lib.hid Kl
  clear Kl
  go_wp2_with fail
  with_reducible refine (HD.out _).mono ?_
  rintro e w3 ⟨rfl, hb⟩
  have Kl := ((HKl2.out.set 0 (.int .i64 (t : Int)) (by simp)).set 1 (.int .i64 (u : Int)) (by simp)).below hb
  simp only [List.set_cons_zero, List.set_cons_succ] at Kl
  have HB3 := Lib.hid (((HB2.out.setCell (p := ⟨w.heap.size, 0, none⟩) (by show w.heap.size ≤ w.heap.size; omega) (.int .i64 (t : Int))).setCell (p := ⟨w.heap.size, 1, none⟩) (by show w.heap.size ≤ w.heap.size; omega) (.int .i64 (u : Int))).trans (hb.mono (by have := HB2.out.size; simp <;> omega)))
  clear hb cl0 fl0 cl1 fl1 zl
  have cl0 := Kl.cell 0 _ rfl
  have cl1 := Kl.cell 1 _ rfl
  have zl := Kl.lt
  have HKl3 := Lib.hid Kl
  clear Kl
  go_wp2_with fail
  with_reducible refine (HG1.out _).mono ?_
  rintro e w4 ⟨rfl, hb⟩
  have Kl := (HKl3.out.alloc _).below hb
  have Ka := (BlkL.new _ [.bool false, .int .i64 (tat : Int), .int .i64 (x2 : Int), .int .i64 4611686018427387903] 25).below hb
  try simp only [World.size_alloc] at Ka
  have HB4 := Lib.hid ((HB3.out.alloc (by have := HB3.out.size; simp; omega) _).trans (hb.mono (by have := HB3.out.size; simp <;> omega)))
  clear hb cl0 cl1 zl
  have cl0 := Kl.cell 0 _ rfl
  have cl1 := Kl.cell 1 _ rfl
  have zl := Kl.lt
  have ca0 := Ka.cell 0 _ rfl
  have ca1 := Ka.cell 1 _ rfl
  have ca2 := Ka.cell 2 _ rfl
  have ca3 := Ka.cell 3 _ rfl
  have za := Ka.lt
  have HKl4 := Lib.hid Kl
  have HKa4 := Lib.hid Ka
  clear Kl Ka
  go_wp2
  go_loopw [135] (fun i wr => ∃ k : Nat, k ≤ 3 ∧ i = .int .i64 k ∧ BlkL wr w.heap.size [.int .i64 (t : Int), .int .i64 (u : Int)] ∧ BlkL wr w4.heap.size [.int .i64 (now : Int), .int .i64 (m : Int), .int .i64 4611686018427387903] ∧ Below w.heap.size w wr) (fun i _ => 3 - (intOf i).toNat)
  case atStart => exact ⟨0, by omega, rfl, HKl4.out.alloc _, BlkL.new _ [_, _, _] _, HB4.out.alloc HB4.out.size _⟩
  case round =>
    obtain ⟨k, hk, rfl, bl, bi, hbw⟩ := hrel
    have HBW := Lib.hid hbw
    have HBL := Lib.hid bl
    have HBI := Lib.hid bi
    have d0 := bl.cell 0 _ rfl
    have d1 := bl.cell 1 _ rfl
    have i0 := bi.cell 0 _ rfl
    have i1 := bi.cell 1 _ rfl
    have i2 := bi.cell 2 _ rfl
    clear bl bi hbw
    by_cases h3 : k = 3
    · subst h3
      go_wp2
      go_ret
      exact ⟨rfl, HBW.out⟩
    · rcases (by omega : k = 0 ∨ k = 1 ∨ k = 2) with rfl | rfl | rfl
      · go_wp2_with fail
        with_reducible refine (HG3.out _).mono ?_
        rintro e w' ⟨rfl, hb⟩
        have HR := Lib.hid (show _ ∧ _ ∧ _ from ⟨HBL.out.below hb, HBI.out.below hb, HBW.out.trans (hb.mono HBW.out.size)⟩)
        clear hb d0 d1 i0 i1 i2
        go_wp2
        go_roundw
        case rel => exact ⟨1, by omega, by go_num, HR.out.1, HR.out.2.1, HR.out.2.2⟩
        case measure => simp [intOf] <;> omega
      · go_wp2_with fail
        with_reducible refine (HG4.out _).mono ?_
        rintro e w' ⟨rfl, hb⟩
        have HR := Lib.hid (show _ ∧ _ ∧ _ from ⟨HBL.out.below hb, HBI.out.below hb, HBW.out.trans (hb.mono HBW.out.size)⟩)
        clear hb d0 d1 i0 i1 i2
        go_wp2
        go_roundw
        case rel => exact ⟨2, by omega, by go_num, HR.out.1, HR.out.2.1, HR.out.2.2⟩
        case measure => simp [intOf] <;> omega
      · go_wp2_with fail
        with_reducible refine (HG5.out _).mono ?_
        rintro e w' ⟨rfl, hb⟩
        have HR := Lib.hid (show _ ∧ _ ∧ _ from ⟨HBL.out.below hb, HBI.out.below hb, HBW.out.trans (hb.mono HBW.out.size)⟩)
        clear hb d0 d1 i0 i1 i2
        go_wp2
        go_roundw
        case rel => exact ⟨3, by omega, by go_num, HR.out.1, HR.out.2.1, HR.out.2.2⟩
        case measure => simp [intOf] <;> omega


theorem cast_mx : ((4611686018427387903 : Nat) : Int) = 4611686018427387903 := rfl
set_option maxHeartbeats 1600000 in
theorem gcraWaits_walk (T Tau x y z : Int) (w : World) (wT : (Lit.int .i64 T).wf = true) (wU : (Lit.int .i64 Tau).wf = true) (wx : (Lit.int .i64 x).wf = true) (wy : (Lit.int .i64 y).wf = true) (wz : (Lit.int .i64 z).wf = true) :
    Calls Try.prog 6 #[.agg #[.int .i64 T, .int .i64 Tau], .int .i64 x, .int .i64 y, .int .i64 z] w (ValEnd w (.bool true)) := by
  have b1 := bounds_i64 wT
  have b2 := bounds_i64 wU
  have b3 := bounds_i64 wx
  have b4 := bounds_i64 wy
  have b5 := bounds_i64 wz
  have HC := fun w => clamped_any w T Tau x y z (by omega) (by omega) (by omega) (by omega) (by omega)
  obtain ⟨t, ht, ht1, ht2⟩ := clamp_one T
  obtain ⟨u, hu, hu2⟩ := clamp_nat Tau
  obtain ⟨tat, hx, hx2⟩ := clamp_nat x
  obtain ⟨now, hy, hn2⟩ := clamp_nat y
  obtain ⟨n, hz, hn3⟩ := clamp_nat z
  rw [ht, hu, hx, hy, hz] at HC
  have HD := fun w => gDecide_nat w (n := n) ht1 ht2 hu2 hx2 hn2 hn3
  have htv := tatV_le (n := n) (Tau := u) ht1 hx2 hn2
  have hL := leftV_le t u (tatV t u tat now n) now
  have HG1 := fun w => granted_any w ht1 ht2 hu2 htv hn2 hL
  have HG2 := fun h w => granted_any w (n := leftV t u (tatV t u tat now n) now + 1) ht1 ht2 hu2 htv hn2 h
  rw [gr_left] at HG1
  rw [gr_more, Int.natCast_add] at HG2
  generalize leftV t u (tatV t u tat now n) now = L at *
  rcases hg : grB t u tat now n with _ | _
  · have e1 : tatV t u tat now n = tat := tatV_no hg
    have e2 : wtV t u tat now n = waitV t u tat now n := by unfold wtV; rw [hg]; rfl
    rw [e1] at HG1 HG2
    rw [e1, e2, hg] at HD
    have hwl := waitV_le ht1 hx2 hn2 hg
    by_cases hw : waitV t u tat now n = 4611686018427387903
    · have hc := wait_max ht1 hx2 hn2 hg hw
      have H3 := fun w => granted_any w (n := n) ht1 ht2 hu2 hx2 hn2 hn3
      have H4 := fun w => granted_any w (n := n) (now := max now tat) ht1 ht2 hu2 hx2 (by omega) hn3
      have H5 := fun w => granted_any w (n := n) (now := 4611686018427387903) ht1 ht2 hu2 hx2 (by omega) hn3
      rw [hg] at H3
      rw [never (by omega) hc] at H4
      rw [never (by omega) hc, cast_mx] at H5
      by_cases hf : L = 4611686018427387903
      · subst hf
        exact gcraWaits_mf T Tau x y z w t u tat now n _ (Lib.hid awake5_any) (Lib.hid HC) (Lib.hid HD) (Lib.hid HG1) (by omega) (max now tat) (by split <;> omega) (Lib.hid H3) (Lib.hid H4) (Lib.hid H5)
      · exact gcraWaits_ml T Tau x y z w t u tat now n _ (L : Int) (Lib.hid awake5_any) (Lib.hid HC) (Lib.hid HD) (Lib.hid HG1) (Lib.hid (HG2 (by omega))) (by omega) (by omega) (by omega) (max now tat) (by split <;> omega) (Lib.hid H3) (Lib.hid H4) (Lib.hid H5)
    · obtain ⟨hs, hy1, hy2⟩ := wait_exact ht1 hx2 hn2 hg hw
      have H3 := fun w => granted_any w (n := n) (now := now + waitV t u tat now n) ht1 ht2 hu2 hx2 hs hn3
      have H4 := fun w => granted_any w (n := n) (now := now + waitV t u tat now n - 1) ht1 ht2 hu2 hx2 (by omega) hn3
      rw [hy1, Int.natCast_add] at H3
      rw [hy2, show ((now + waitV t u tat now n - 1 : Nat) : Int) = (now : Int) + (waitV t u tat now n : Int) - 1 by omega] at H4
      by_cases hf : L = 4611686018427387903
      · subst hf
        exact gcraWaits_ef T Tau x y z w t u tat now n _ (Lib.hid awake5_any) (Lib.hid HC) (Lib.hid HD) (Lib.hid HG1) (by omega) (by omega) (by omega) (Lib.hid H3) (Lib.hid H4)
      · exact gcraWaits_el T Tau x y z w t u tat now n _ (L : Int) (Lib.hid awake5_any) (Lib.hid HC) (Lib.hid HD) (Lib.hid HG1) (Lib.hid (HG2 (by omega))) (by omega) (by omega) (by omega) (by omega) (by omega) (Lib.hid H3) (Lib.hid H4)
  · have e2 : wtV t u tat now n = 0 := by unfold wtV; rw [hg]; rfl
    rw [e2, hg] at HD
    rcases Nat.eq_zero_or_pos n with hn | hn
    · have e1 : tatV t u tat now n = tat := by rw [hn]; exact tatV_zero _ _ _ _
      rw [e1] at HG1 HG2 HD
      by_cases hf : L = 4611686018427387903
      · subst hf
        exact gcraWaits_zf T Tau x y z w t u tat now n (Lib.hid awake5_any) (Lib.hid HC) (Lib.hid HD) (Lib.hid HG1) hn
      · exact gcraWaits_zl T Tau x y z w t u tat now n (L : Int) (Lib.hid awake5_any) (Lib.hid HC) (Lib.hid HD) (Lib.hid HG1) (Lib.hid (HG2 (by omega))) (by omega) (by omega) hn
    · have e1 := tatV_pos hg hn
      have e3 : (if tat < now then (now : Int) else (tat : Int)) = ((max tat now : Nat) : Int) := by split <;> omega
      have e4 : (n : Int) * (t : Int) = ((n * t : Nat) : Int) := by push_cast; rfl
      have e5 : ((max tat now : Nat) : Int) + ((n * t : Nat) : Int) = (tatV t u tat now n : Int) := by rw [e1]; push_cast; rfl
      generalize max tat now = B at *
      generalize n * t = r at *
      by_cases hf : L = 4611686018427387903
      · subst hf
        exact gcraWaits_yf T Tau x y z w t u tat now n _ (Lib.hid awake5_any) (Lib.hid HC) (Lib.hid HD) (Lib.hid HG1) hn B r e3 e4 e5 htv
      · exact gcraWaits_yl T Tau x y z w t u tat now n _ (L : Int) (Lib.hid awake5_any) (Lib.hid HC) (Lib.hid HD) (Lib.hid HG1) (Lib.hid (HG2 (by omega))) (by omega) (by omega) hn B r e3 e4 e5 htv

end Go.Proofs.Ythigbhhhhebjeaa
