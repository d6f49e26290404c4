/- Contracts: the document's DocStep, by its ways; same; DocNew. -/
import Derived.Test.YtddadlomkodgcaaDcA
import Derived.BigRegion
import Derived.Deep.QuietTactic
import Derived.BigQuiet
namespace Go.Proofs.Ytddadlomkodgcaa
open Go.RowKit
set_option maxRecDepth 100000
set_option linter.unusedVariables false

theorem dstep_out (w : World) (p : Value) (who : Int) (hb : inB who 64 = false) :
    Calls Try.prog 30 #[p, .int .i64 who] w fun e w' => e = .returned (.tuple #[resV false 0 0, .int .i64 1]) ∧ Below w.heap.size w w' := by
  have HW := Lib.hid (worker_any (w.alloc (.cells #[.bool false, .int .i64 0, .int .i64 0] 75)) who)
  rw [hb] at HW
  clear hb
  go_enter Try.func30, Try.ntmps30
  go_wp2_with fail
  with_reducible refine HW.out.mono ?_
  rintro e w1 ⟨rfl, hw⟩
  subst hw
  go_wp2
  refine bodyPost_ret (v := .tuple #[resV false 0 0, .int .i64 1]) (by simp [results, Try.results30, go_sem]) rfl ⟨rfl, ?_⟩
  repeat' first
    | with_reducible exact Below.refl _ _
    | with_reducible refine Below.setCell ?_ (by simp) _
    | with_reducible refine Below.alloc ?_ (by simp) _
    | with_reducible refine Below.drew ?_
theorem dstep_nil (w : World) (who : Int) (hb : inB who 64 = true) :
    Calls Try.prog 30 #[.pointer none, .int .i64 who] w fun e w' => e = .returned (.tuple #[resV false 0 0, .int .i64 7]) ∧ Below w.heap.size w w' := by
  have HW := Lib.hid (worker_any (w.alloc (.cells #[.bool false, .int .i64 0, .int .i64 0] 75)) who)
  rw [hb] at HW
  clear hb
  go_enter Try.func30, Try.ntmps30
  go_wp2_with fail
  with_reducible refine HW.out.mono ?_
  rintro e w1 ⟨rfl, hw⟩
  subst hw
  go_wp2
  refine bodyPost_ret (v := .tuple #[resV false 0 0, .int .i64 7]) (by simp [results, Try.results30, go_sem]) rfl ⟨rfl, ?_⟩
  repeat' first
    | with_reducible exact Below.refl _ _
    | with_reducible refine Below.setCell ?_ (by simp) _
    | with_reducible refine Below.alloc ?_ (by simp) _
    | with_reducible refine Below.drew ?_
section
variable (w : World) (d lim v k : Nat) (calls : List CallV)

set_option maxHeartbeats 1600000 in
theorem dstep_none (h : DcS w d lim v k calls) (hk : k < 9223372036854775807) (hv : v ≤ lim) (hl : lim ≤ 4611686018427387903) (i : Nat) (hi : i < 64) (x : CallV) (hx : calls.getD i noCall = x) (h0 : x.op = 0) :
    Calls Try.prog 30 #[.pointer (some ⟨d, 0, none⟩), .int .i64 (i : Int)] w fun e w' => e = .returned (.tuple #[resV false 0 0, .int .i64 7]) ∧ Below w.heap.size w w' := by
  obtain ⟨dop, rd, nn, hb, hr⟩ := h
  have hl0 := hb.lt
  have HW := Lib.hid (worker_any (w.alloc (.cells #[.bool false, .int .i64 0, .int .i64 0] 75)) i)
  rw [inB_iff.mpr (by omega)] at HW
  have hn1 : d ∉ [w.heap.size] := by simp; omega
  have hdz : d ≠ w.heap.size := by omega
  have hzd : w.heap.size ∉ [d] := by simp; omega
  have hB := hb
  have e0 := hB.op i hi
  have e1 := hB.rd i hi
  have e2 := hB.nn i hi
  rw [hr.op i hi, hx] at e0
  rw [hr.rd i hi, hx] at e1
  have c0 := hB.c0
  have c1 := hB.c1
  have c2 := hB.c2
  have g1 := hB.fr 1 (by omega)
  have g2 := hB.fr 2 (by omega)
  have f1 := hB.fr (3 + i * 3 + 1) (by omega)
  have f2 := hB.fr (3 + i * 3 + 2) (by omega)
  have lB := hB.lt
  have HR := Lib.hid hr
  have i0 : (0 : Int) ≤ (i : Int) := by omega
  have i1 : (i : Int) < 64 := by omega
  have hvi : (v : Int) ≤ (lim : Int) := by omega
  have HX := Lib.hid hx

  rw [h0] at e0
  rw [show ((0 : Nat) : Int) = 0 from rfl] at e0
  clear hb hr hB hx
  go_enter Try.func30, Try.ntmps30
  go_wp2_with fail
  with_reducible refine HW.out.mono ?_
  rintro e w1 ⟨rfl, hw⟩
  subst hw
  go_wp2
  refine bodyPost_ret (v := .tuple #[resV false 0 0, .int .i64 7]) (by simp [results, Try.results30, go_sem]) rfl ⟨rfl, ?_⟩
  repeat' first
    | with_reducible exact Below.refl _ _
    | with_reducible refine Below.setCell ?_ (by simp) _
    | with_reducible refine Below.alloc ?_ (by simp) _
    | with_reducible refine Below.drew ?_

set_option maxHeartbeats 1600000 in
theorem dstep_read (h : DcS w d lim v k calls) (hk : k < 9223372036854775807) (hv : v ≤ lim) (hl : lim ≤ 4611686018427387903) (i : Nat) (hi : i < 64) (x : CallV) (hx : calls.getD i noCall = x) (ho : x.op = 3) (hld : x.ld = false) :
    Calls Try.prog 30 #[.pointer (some ⟨d, 0, none⟩), .int .i64 (i : Int)] w fun e w' => e = .returned (.tuple #[resV true 0 (v : Int), .int .i64 0]) ∧ DcS w' d lim (v) (k + 1) (calls.set i noCall) ∧ Off [d] w w' := by
  obtain ⟨dop, rd, nn, hb, hr⟩ := h
  have hl0 := hb.lt
  have HW := Lib.hid (worker_any (w.alloc (.cells #[.bool false, .int .i64 0, .int .i64 0] 75)) i)
  rw [inB_iff.mpr (by omega)] at HW
  have hn1 : d ∉ [w.heap.size] := by simp; omega
  have hdz : d ≠ w.heap.size := by omega
  have hzd : w.heap.size ∉ [d] := by simp; omega
  have hB := hb
  have e0 := hB.op i hi
  have e1 := hB.rd i hi
  have e2 := hB.nn i hi
  rw [hr.op i hi, hx] at e0
  rw [hr.rd i hi, hx] at e1
  have c0 := hB.c0
  have c1 := hB.c1
  have c2 := hB.c2
  have g1 := hB.fr 1 (by omega)
  have g2 := hB.fr 2 (by omega)
  have f1 := hB.fr (3 + i * 3 + 1) (by omega)
  have f2 := hB.fr (3 + i * 3 + 2) (by omega)
  have lB := hB.lt
  have HR := Lib.hid hr
  have i0 : (0 : Int) ≤ (i : Int) := by omega
  have i1 : (i : Int) < 64 := by omega
  have hvi : (v : Int) ≤ (lim : Int) := by omega
  have HX := Lib.hid hx

  rw [ho, show ((3 : Nat) : Int) = 3 from rfl] at e0
  rw [hld] at e1

  have B0 := ((((hB.setK ((k : Int) + 1)).setRd hi true).setNn hi (v : Int)).off (S := []) ((Off.refl [] _).alloc (.cells #[.bool false, .int .i64 0, .int .i64 0] 75)) (by simp))
  have HO0 := ((((Off.refl [d] w).setCell (p := ⟨d, 2, none⟩) (by simp) (.int .i64 ((k : Int) + 1))).setCell (p := ⟨d, 3 + i * 3 + 1, none⟩) (by simp) (.bool true)).setCell (p := ⟨d, 3 + i * 3 + 2, none⟩) (by simp) (.int .i64 (v : Int))).alloc (.cells #[.bool false, .int .i64 0, .int .i64 0] 75)
  have kz0 := BlkL.new (((w.setCell ⟨d, 2, none⟩ (.int .i64 ((k : Int) + 1))).setCell ⟨d, 3 + i * 3 + 1, none⟩ (.bool true)).setCell ⟨d, 3 + i * 3 + 2, none⟩ (.int .i64 (v : Int))) [.bool false, .int .i64 0, .int .i64 0] 75
  simp only [World.size_setCell] at kz0
  have B1 := Lib.hid B0
  have HO := Lib.hid HO0
  have KZ := Lib.hid kz0
  clear B0 HO0 kz0
  have HE := Lib.hid (dend_any _ d lim B1.out i hi 0 (v : Int))
  clear hb hr hB hx
  go_enter Try.func30, Try.ntmps30
  go_wp2_with fail
  with_reducible refine HW.out.mono ?_
  rintro e w1 ⟨rfl, hw⟩
  subst hw
  go_wp2_with fail
  with_reducible refine HE.out.mono ?_
  rintro e w2 ⟨rfl, hd2, hf2⟩
  have k2 := KZ.out.off hf2 hzd
  have m0 := k2.cell 0 _ rfl
  have m1 := k2.cell 1 _ rfl
  have m2 := k2.cell 2 _ rfl
  have p0 := k2.froz 0 (by simp)
  have p1 := k2.froz 1 (by simp)
  have p2 := k2.froz 2 (by simp)
  have pl := k2.lt
  have D2 := Lib.hid hd2
  have O2 := Lib.hid (HO.out.trans hf2)
  have K2 := Lib.hid k2
  clear hd2 hf2 k2 e0 e1 e2 c0 c1 c2 g1 g2 f1 f2
  go_wp2
  have n0 := (K2.out.set 0 (.bool true) (by simp)).cell 0 _ rfl
  have n1 := ((K2.out.set 0 (.bool true) (by simp)).set 1 (.int .i64 0) (by simp)).cell 1 _ rfl
  have n2 := (((K2.out.set 0 (.bool true) (by simp)).set 1 (.int .i64 0) (by simp)).set 2 (.int .i64 (v : Int)) (by simp)).cell 2 _ rfl
  refine bodyPost_ret (v := .tuple #[resV true 0 (v : Int), .int .i64 0]) (by simp [results, Try.results30, go_sem, n0, n1, n2]) rfl ⟨rfl, ?_, O2.out.res (Nat.le_refl _) _ _ _⟩
  refine ⟨_, _, _, (D2.out.off (S := [w.heap.size]) ((((Off.refl _ w2).setCell (by simp) _).setCell (by simp) _).setCell (by simp) _) hn1), HR.out.turn hi noCall (if_pos rfl) (if_pos rfl) (fun hn => by cases hn) (fun j hj => (if_neg hj)) (fun j hj => (if_neg hj).trans (if_neg hj)) (fun j hj => (if_neg hj).trans (if_neg hj))⟩

set_option maxHeartbeats 1600000 in
theorem dstep_full (h : DcS w d lim v k calls) (hk : k < 9223372036854775807) (hv : v ≤ lim) (hl : lim ≤ 4611686018427387903) (i : Nat) (hi : i < 64) (x : CallV) (hx : calls.getD i noCall = x) (ho : x.op = 1) (hld : x.ld = false) (hvl : v = lim) :
    Calls Try.prog 30 #[.pointer (some ⟨d, 0, none⟩), .int .i64 (i : Int)] w fun e w' => e = .returned (.tuple #[resV true 10 0, .int .i64 0]) ∧ DcS w' d lim (v) (k + 1) (calls.set i noCall) ∧ Off [d] w w' := by
  obtain ⟨dop, rd, nn, hb, hr⟩ := h
  have hl0 := hb.lt
  have HW := Lib.hid (worker_any (w.alloc (.cells #[.bool false, .int .i64 0, .int .i64 0] 75)) i)
  rw [inB_iff.mpr (by omega)] at HW
  have hn1 : d ∉ [w.heap.size] := by simp; omega
  have hdz : d ≠ w.heap.size := by omega
  have hzd : w.heap.size ∉ [d] := by simp; omega
  have hB := hb
  have e0 := hB.op i hi
  have e1 := hB.rd i hi
  have e2 := hB.nn i hi
  rw [hr.op i hi, hx] at e0
  rw [hr.rd i hi, hx] at e1
  have c0 := hB.c0
  have c1 := hB.c1
  have c2 := hB.c2
  have g1 := hB.fr 1 (by omega)
  have g2 := hB.fr 2 (by omega)
  have f1 := hB.fr (3 + i * 3 + 1) (by omega)
  have f2 := hB.fr (3 + i * 3 + 2) (by omega)
  have lB := hB.lt
  have HR := Lib.hid hr
  have i0 : (0 : Int) ≤ (i : Int) := by omega
  have i1 : (i : Int) < 64 := by omega
  have hvi : (v : Int) ≤ (lim : Int) := by omega
  have HX := Lib.hid hx

  rw [ho, show ((1 : Nat) : Int) = 1 from rfl] at e0
  rw [hld] at e1

  subst hvl
  have B0 := ((((hB.setK ((k : Int) + 1)).setRd hi true).setNn hi (v : Int)).off (S := []) ((Off.refl [] _).alloc (.cells #[.bool false, .int .i64 0, .int .i64 0] 75)) (by simp))
  have HO0 := ((((Off.refl [d] w).setCell (p := ⟨d, 2, none⟩) (by simp) (.int .i64 ((k : Int) + 1))).setCell (p := ⟨d, 3 + i * 3 + 1, none⟩) (by simp) (.bool true)).setCell (p := ⟨d, 3 + i * 3 + 2, none⟩) (by simp) (.int .i64 (v : Int))).alloc (.cells #[.bool false, .int .i64 0, .int .i64 0] 75)
  have kz0 := BlkL.new (((w.setCell ⟨d, 2, none⟩ (.int .i64 ((k : Int) + 1))).setCell ⟨d, 3 + i * 3 + 1, none⟩ (.bool true)).setCell ⟨d, 3 + i * 3 + 2, none⟩ (.int .i64 (v : Int))) [.bool false, .int .i64 0, .int .i64 0] 75
  simp only [World.size_setCell] at kz0
  have B1 := Lib.hid (B0.off (S := []) (Off.refl [] _).drew (by simp))
  have HO := Lib.hid HO0.drew
  have KZ := Lib.hid kz0.drew
  clear B0 HO0 kz0
  have HE := Lib.hid (dend_any _ d v B1.out i hi 10 0)
  clear hb hr hB hx
  go_enter Try.func30, Try.ntmps30
  go_wp2_with fail
  with_reducible refine HW.out.mono ?_
  rintro e w1 ⟨rfl, hw⟩
  subst hw
  go_wp2
  go_region
  go_wp2_with fail
  with_reducible refine HE.out.mono ?_
  rintro e w2 ⟨rfl, hd2, hf2⟩
  have k2 := KZ.out.off hf2 hzd
  have m0 := k2.cell 0 _ rfl
  have m1 := k2.cell 1 _ rfl
  have m2 := k2.cell 2 _ rfl
  have p0 := k2.froz 0 (by simp)
  have p1 := k2.froz 1 (by simp)
  have p2 := k2.froz 2 (by simp)
  have pl := k2.lt
  have D2 := Lib.hid hd2
  have O2 := Lib.hid (HO.out.trans hf2)
  have K2 := Lib.hid k2
  clear hd2 hf2 k2 e0 e1 e2 c0 c1 c2 g1 g2 f1 f2
  go_wp2
  have n0 := (K2.out.set 0 (.bool true) (by simp)).cell 0 _ rfl
  have n1 := ((K2.out.set 0 (.bool true) (by simp)).set 1 (.int .i64 10) (by simp)).cell 1 _ rfl
  have n2 := (((K2.out.set 0 (.bool true) (by simp)).set 1 (.int .i64 10) (by simp)).set 2 (.int .i64 0) (by simp)).cell 2 _ rfl
  refine bodyPost_ret (v := .tuple #[resV true 10 0, .int .i64 0]) (by simp [results, Try.results30, go_sem, n0, n1, n2]) rfl ⟨rfl, ?_, O2.out.res (Nat.le_refl _) _ _ _⟩
  refine ⟨_, _, _, (D2.out.off (S := [w.heap.size]) ((((Off.refl _ w2).setCell (by simp) _).setCell (by simp) _).setCell (by simp) _) hn1), HR.out.turn hi noCall (if_pos rfl) (if_pos rfl) (fun hn => by cases hn) (fun j hj => (if_neg hj)) (fun j hj => (if_neg hj).trans (if_neg hj)) (fun j hj => (if_neg hj).trans (if_neg hj))⟩

set_option maxHeartbeats 1600000 in
theorem dstep_range (h : DcS w d lim v k calls) (hk : k < 9223372036854775807) (hv : v ≤ lim) (hl : lim ≤ 4611686018427387903) (i : Nat) (hi : i < 64) (x : CallV) (hx : calls.getD i noCall = x) (ho : x.op = 2) (hld : x.ld = false) (hvl : v = 0) :
    Calls Try.prog 30 #[.pointer (some ⟨d, 0, none⟩), .int .i64 (i : Int)] w fun e w' => e = .returned (.tuple #[resV true 5 0, .int .i64 0]) ∧ DcS w' d lim (v) (k + 1) (calls.set i noCall) ∧ Off [d] w w' := by
  obtain ⟨dop, rd, nn, hb, hr⟩ := h
  have hl0 := hb.lt
  have HW := Lib.hid (worker_any (w.alloc (.cells #[.bool false, .int .i64 0, .int .i64 0] 75)) i)
  rw [inB_iff.mpr (by omega)] at HW
  have hn1 : d ∉ [w.heap.size] := by simp; omega
  have hdz : d ≠ w.heap.size := by omega
  have hzd : w.heap.size ∉ [d] := by simp; omega
  have hB := hb
  have e0 := hB.op i hi
  have e1 := hB.rd i hi
  have e2 := hB.nn i hi
  rw [hr.op i hi, hx] at e0
  rw [hr.rd i hi, hx] at e1
  have c0 := hB.c0
  have c1 := hB.c1
  have c2 := hB.c2
  have g1 := hB.fr 1 (by omega)
  have g2 := hB.fr 2 (by omega)
  have f1 := hB.fr (3 + i * 3 + 1) (by omega)
  have f2 := hB.fr (3 + i * 3 + 2) (by omega)
  have lB := hB.lt
  have HR := Lib.hid hr
  have i0 : (0 : Int) ≤ (i : Int) := by omega
  have i1 : (i : Int) < 64 := by omega
  have hvi : (v : Int) ≤ (lim : Int) := by omega
  have HX := Lib.hid hx

  rw [ho, show ((2 : Nat) : Int) = 2 from rfl] at e0
  rw [hld] at e1

  subst hvl
  rw [show ((0 : Nat) : Int) = 0 from rfl] at c1
  have B0 := ((((hB.setK ((k : Int) + 1)).setRd hi true).setNn hi 0).off (S := []) ((Off.refl [] _).alloc (.cells #[.bool false, .int .i64 0, .int .i64 0] 75)) (by simp))
  have HO0 := ((((Off.refl [d] w).setCell (p := ⟨d, 2, none⟩) (by simp) (.int .i64 ((k : Int) + 1))).setCell (p := ⟨d, 3 + i * 3 + 1, none⟩) (by simp) (.bool true)).setCell (p := ⟨d, 3 + i * 3 + 2, none⟩) (by simp) (.int .i64 0)).alloc (.cells #[.bool false, .int .i64 0, .int .i64 0] 75)
  have kz0 := BlkL.new (((w.setCell ⟨d, 2, none⟩ (.int .i64 ((k : Int) + 1))).setCell ⟨d, 3 + i * 3 + 1, none⟩ (.bool true)).setCell ⟨d, 3 + i * 3 + 2, none⟩ (.int .i64 0)) [.bool false, .int .i64 0, .int .i64 0] 75
  simp only [World.size_setCell] at kz0
  have B1 := Lib.hid (B0.off (S := []) (Off.refl [] _).drew (by simp))
  have HO := Lib.hid HO0.drew
  have KZ := Lib.hid kz0.drew
  clear B0 HO0 kz0
  have HE := Lib.hid (dend_any _ d lim B1.out i hi 5 0)
  clear hb hr hB hx
  go_enter Try.func30, Try.ntmps30
  go_wp2_with fail
  with_reducible refine HW.out.mono ?_
  rintro e w1 ⟨rfl, hw⟩
  subst hw
  go_wp2
  go_region
  go_wp2_with fail
  with_reducible refine HE.out.mono ?_
  rintro e w2 ⟨rfl, hd2, hf2⟩
  have k2 := KZ.out.off hf2 hzd
  have m0 := k2.cell 0 _ rfl
  have m1 := k2.cell 1 _ rfl
  have m2 := k2.cell 2 _ rfl
  have p0 := k2.froz 0 (by simp)
  have p1 := k2.froz 1 (by simp)
  have p2 := k2.froz 2 (by simp)
  have pl := k2.lt
  have D2 := Lib.hid hd2
  have O2 := Lib.hid (HO.out.trans hf2)
  have K2 := Lib.hid k2
  clear hd2 hf2 k2 e0 e1 e2 c0 c1 c2 g1 g2 f1 f2
  go_wp2
  have n0 := (K2.out.set 0 (.bool true) (by simp)).cell 0 _ rfl
  have n1 := ((K2.out.set 0 (.bool true) (by simp)).set 1 (.int .i64 5) (by simp)).cell 1 _ rfl
  have n2 := (((K2.out.set 0 (.bool true) (by simp)).set 1 (.int .i64 5) (by simp)).set 2 (.int .i64 0) (by simp)).cell 2 _ rfl
  refine bodyPost_ret (v := .tuple #[resV true 5 0, .int .i64 0]) (by simp [results, Try.results30, go_sem, n0, n1, n2]) rfl ⟨rfl, ?_, O2.out.res (Nat.le_refl _) _ _ _⟩
  refine ⟨_, _, _, (D2.out.off (S := [w.heap.size]) ((((Off.refl _ w2).setCell (by simp) _).setCell (by simp) _).setCell (by simp) _) hn1), HR.out.turn hi noCall (if_pos rfl) (if_pos rfl) (fun hn => by cases hn) (fun j hj => (if_neg hj)) (fun j hj => (if_neg hj).trans (if_neg hj)) (fun j hj => (if_neg hj).trans (if_neg hj))⟩

set_option maxHeartbeats 1600000 in
theorem dstep_loadup (h : DcS w d lim v k calls) (hk : k < 9223372036854775807) (hv : v ≤ lim) (hl : lim ≤ 4611686018427387903) (i : Nat) (hi : i < 64) (x : CallV) (hx : calls.getD i noCall = x) (ho : x.op = 1) (hld : x.ld = false) (hvl : ¬ v = lim) :
    Calls Try.prog 30 #[.pointer (some ⟨d, 0, none⟩), .int .i64 (i : Int)] w fun e w' => e = .returned (.tuple #[resV false 0 0, .int .i64 0]) ∧ DcS w' d lim (v) (k + 1) (calls.set i ⟨1, true, v⟩) ∧ Off [d] w w' := by
  obtain ⟨dop, rd, nn, hb, hr⟩ := h
  have hl0 := hb.lt
  have HW := Lib.hid (worker_any (w.alloc (.cells #[.bool false, .int .i64 0, .int .i64 0] 75)) i)
  rw [inB_iff.mpr (by omega)] at HW
  have hn1 : d ∉ [w.heap.size] := by simp; omega
  have hdz : d ≠ w.heap.size := by omega
  have hzd : w.heap.size ∉ [d] := by simp; omega
  have hB := hb
  have e0 := hB.op i hi
  have e1 := hB.rd i hi
  have e2 := hB.nn i hi
  rw [hr.op i hi, hx] at e0
  rw [hr.rd i hi, hx] at e1
  have c0 := hB.c0
  have c1 := hB.c1
  have c2 := hB.c2
  have g1 := hB.fr 1 (by omega)
  have g2 := hB.fr 2 (by omega)
  have f1 := hB.fr (3 + i * 3 + 1) (by omega)
  have f2 := hB.fr (3 + i * 3 + 2) (by omega)
  have lB := hB.lt
  have HR := Lib.hid hr
  have i0 : (0 : Int) ≤ (i : Int) := by omega
  have i1 : (i : Int) < 64 := by omega
  have hvi : (v : Int) ≤ (lim : Int) := by omega
  have HX := Lib.hid hx

  rw [ho, show ((1 : Nat) : Int) = 1 from rfl] at e0
  rw [hld] at e1

  have hvl2 : ¬ (v : Int) = (lim : Int) := by omega
  have B0 := ((((hB.setK ((k : Int) + 1)).setRd hi true).setNn hi (v : Int)).off (S := []) ((Off.refl [] _).alloc (.cells #[.bool false, .int .i64 0, .int .i64 0] 75)) (by simp))
  have HO0 := ((((Off.refl [d] w).setCell (p := ⟨d, 2, none⟩) (by simp) (.int .i64 ((k : Int) + 1))).setCell (p := ⟨d, 3 + i * 3 + 1, none⟩) (by simp) (.bool true)).setCell (p := ⟨d, 3 + i * 3 + 2, none⟩) (by simp) (.int .i64 (v : Int))).alloc (.cells #[.bool false, .int .i64 0, .int .i64 0] 75)
  have kz0 := BlkL.new (((w.setCell ⟨d, 2, none⟩ (.int .i64 ((k : Int) + 1))).setCell ⟨d, 3 + i * 3 + 1, none⟩ (.bool true)).setCell ⟨d, 3 + i * 3 + 2, none⟩ (.int .i64 (v : Int))) [.bool false, .int .i64 0, .int .i64 0] 75
  simp only [World.size_setCell] at kz0
  have B1 := Lib.hid (B0.off (S := []) (Off.refl [] _).drew (by simp))
  have HO := Lib.hid HO0.drew
  have KZ := Lib.hid kz0.drew
  clear B0 HO0 kz0
  clear hb hr hB hx
  go_enter Try.func30, Try.ntmps30
  go_wp2_with fail
  with_reducible refine HW.out.mono ?_
  rintro e w1 ⟨rfl, hw⟩
  subst hw
  go_wp2
  go_region
  go_wp2

  refine bodyPost_ret (v := .tuple #[resV false 0 0, .int .i64 0]) (by simp [results, Try.results30, go_sem]) rfl ⟨rfl, ?_, ?_⟩
  · refine ⟨_, _, _, (B1.out.off (S := [w.heap.size]) ?_ hn1), HR.out.turn hi ⟨1, true, v⟩ ((HR.out.op i hi).trans (by rw [HX.out, ho])) (if_pos rfl) (fun _ => if_pos rfl) (fun j hj => rfl) (fun j hj => if_neg hj) (fun j hj => if_neg hj)⟩
    first | exact (Off.refl _ _) | exact (((Off.refl _ _).setCell (by simp) _).setCell (by simp) _).setCell (by simp) _
  · first | exact HO.out | exact HO.out.res (Nat.le_refl _) _ _ _

set_option maxHeartbeats 1600000 in
theorem dstep_loaddown (h : DcS w d lim v k calls) (hk : k < 9223372036854775807) (hv : v ≤ lim) (hl : lim ≤ 4611686018427387903) (i : Nat) (hi : i < 64) (x : CallV) (hx : calls.getD i noCall = x) (ho : x.op = 2) (hld : x.ld = false) (hvl : ¬ v = 0) :
    Calls Try.prog 30 #[.pointer (some ⟨d, 0, none⟩), .int .i64 (i : Int)] w fun e w' => e = .returned (.tuple #[resV false 0 0, .int .i64 0]) ∧ DcS w' d lim (v) (k + 1) (calls.set i ⟨2, true, v⟩) ∧ Off [d] w w' := by
  obtain ⟨dop, rd, nn, hb, hr⟩ := h
  have hl0 := hb.lt
  have HW := Lib.hid (worker_any (w.alloc (.cells #[.bool false, .int .i64 0, .int .i64 0] 75)) i)
  rw [inB_iff.mpr (by omega)] at HW
  have hn1 : d ∉ [w.heap.size] := by simp; omega
  have hdz : d ≠ w.heap.size := by omega
  have hzd : w.heap.size ∉ [d] := by simp; omega
  have hB := hb
  have e0 := hB.op i hi
  have e1 := hB.rd i hi
  have e2 := hB.nn i hi
  rw [hr.op i hi, hx] at e0
  rw [hr.rd i hi, hx] at e1
  have c0 := hB.c0
  have c1 := hB.c1
  have c2 := hB.c2
  have g1 := hB.fr 1 (by omega)
  have g2 := hB.fr 2 (by omega)
  have f1 := hB.fr (3 + i * 3 + 1) (by omega)
  have f2 := hB.fr (3 + i * 3 + 2) (by omega)
  have lB := hB.lt
  have HR := Lib.hid hr
  have i0 : (0 : Int) ≤ (i : Int) := by omega
  have i1 : (i : Int) < 64 := by omega
  have hvi : (v : Int) ≤ (lim : Int) := by omega
  have HX := Lib.hid hx

  rw [ho, show ((2 : Nat) : Int) = 2 from rfl] at e0
  rw [hld] at e1

  have hvl2 : ¬ (v : Int) = 0 := by omega
  have B0 := ((((hB.setK ((k : Int) + 1)).setRd hi true).setNn hi (v : Int)).off (S := []) ((Off.refl [] _).alloc (.cells #[.bool false, .int .i64 0, .int .i64 0] 75)) (by simp))
  have HO0 := ((((Off.refl [d] w).setCell (p := ⟨d, 2, none⟩) (by simp) (.int .i64 ((k : Int) + 1))).setCell (p := ⟨d, 3 + i * 3 + 1, none⟩) (by simp) (.bool true)).setCell (p := ⟨d, 3 + i * 3 + 2, none⟩) (by simp) (.int .i64 (v : Int))).alloc (.cells #[.bool false, .int .i64 0, .int .i64 0] 75)
  have kz0 := BlkL.new (((w.setCell ⟨d, 2, none⟩ (.int .i64 ((k : Int) + 1))).setCell ⟨d, 3 + i * 3 + 1, none⟩ (.bool true)).setCell ⟨d, 3 + i * 3 + 2, none⟩ (.int .i64 (v : Int))) [.bool false, .int .i64 0, .int .i64 0] 75
  simp only [World.size_setCell] at kz0
  have B1 := Lib.hid (B0.off (S := []) (Off.refl [] _).drew (by simp))
  have HO := Lib.hid HO0.drew
  have KZ := Lib.hid kz0.drew
  clear B0 HO0 kz0
  clear hb hr hB hx
  go_enter Try.func30, Try.ntmps30
  go_wp2_with fail
  with_reducible refine HW.out.mono ?_
  rintro e w1 ⟨rfl, hw⟩
  subst hw
  go_wp2
  go_region
  go_wp2

  refine bodyPost_ret (v := .tuple #[resV false 0 0, .int .i64 0]) (by simp [results, Try.results30, go_sem]) rfl ⟨rfl, ?_, ?_⟩
  · refine ⟨_, _, _, (B1.out.off (S := [w.heap.size]) ?_ hn1), HR.out.turn hi ⟨2, true, v⟩ ((HR.out.op i hi).trans (by rw [HX.out, ho])) (if_pos rfl) (fun _ => if_pos rfl) (fun j hj => rfl) (fun j hj => if_neg hj) (fun j hj => if_neg hj)⟩
    first | exact (Off.refl _ _) | exact (((Off.refl _ _).setCell (by simp) _).setCell (by simp) _).setCell (by simp) _
  · first | exact HO.out | exact HO.out.res (Nat.le_refl _) _ _ _

set_option maxHeartbeats 1600000 in
theorem dstep_fail (h : DcS w d lim v k calls) (hk : k < 9223372036854775807) (hv : v ≤ lim) (hl : lim ≤ 4611686018427387903) (i : Nat) (hi : i < 64) (x : CallV) (hx : calls.getD i noCall = x) (hld : x.ld = true) (hp : x.op ≠ 0) (hvl : ¬ v = x.old) :
    Calls Try.prog 30 #[.pointer (some ⟨d, 0, none⟩), .int .i64 (i : Int)] w fun e w' => e = .returned (.tuple #[resV false 0 0, .int .i64 0]) ∧ DcS w' d lim (v) (k + 1) (calls.set i ⟨x.op, false, 0⟩) ∧ Off [d] w w' := by
  obtain ⟨dop, rd, nn, hb, hr⟩ := h
  have hl0 := hb.lt
  have HW := Lib.hid (worker_any (w.alloc (.cells #[.bool false, .int .i64 0, .int .i64 0] 75)) i)
  rw [inB_iff.mpr (by omega)] at HW
  have hn1 : d ∉ [w.heap.size] := by simp; omega
  have hdz : d ≠ w.heap.size := by omega
  have hzd : w.heap.size ∉ [d] := by simp; omega
  have hB := hb
  have e0 := hB.op i hi
  have e1 := hB.rd i hi
  have e2 := hB.nn i hi
  rw [hr.op i hi, hx] at e0
  rw [hr.rd i hi, hx] at e1
  have c0 := hB.c0
  have c1 := hB.c1
  have c2 := hB.c2
  have g1 := hB.fr 1 (by omega)
  have g2 := hB.fr 2 (by omega)
  have f1 := hB.fr (3 + i * 3 + 1) (by omega)
  have f2 := hB.fr (3 + i * 3 + 2) (by omega)
  have lB := hB.lt
  have HR := Lib.hid hr
  have i0 : (0 : Int) ≤ (i : Int) := by omega
  have i1 : (i : Int) < 64 := by omega
  have hvi : (v : Int) ≤ (lim : Int) := by omega
  have HX := Lib.hid hx

  rw [hld] at e1

  have hp2 : ¬ (x.op : Int) = 0 := by omega
  have hno := hr.nn i hi (by rw [hx]; exact hld)
  rw [hx] at hno
  rw [hno] at e2
  have hvl2 : ¬ (v : Int) = (x.old : Int) := by omega
  have B1 := Lib.hid ((((hB.setK ((k : Int) + 1)).setRd hi false).off (S := []) ((Off.refl [] _).alloc (.cells #[.bool false, .int .i64 0, .int .i64 0] 75)) (by simp)).off (S := []) (Off.refl [] _).drew (by simp))
  have HO := Lib.hid ((((Off.refl [d] w).setCell (p := ⟨d, 2, none⟩) (by simp) (.int .i64 ((k : Int) + 1))).setCell (p := ⟨d, 3 + i * 3 + 1, none⟩) (by simp) (.bool false)).alloc (.cells #[.bool false, .int .i64 0, .int .i64 0] 75)).drew
  clear hb hr hB hx
  go_enter Try.func30, Try.ntmps30
  go_wp2_with fail
  with_reducible refine HW.out.mono ?_
  rintro e w1 ⟨rfl, hw⟩
  subst hw
  go_wp2
  go_region
  go_wp2
  refine bodyPost_ret (v := .tuple #[resV false 0 0, .int .i64 0]) (by simp [results, Try.results30, go_sem]) rfl ⟨rfl, ⟨_, _, _, B1.out, ?_⟩, HO.out⟩
  exact HR.out.turn hi ⟨x.op, false, 0⟩ ((HR.out.op i hi).trans (by rw [HX.out])) (if_pos rfl) (fun hn => by cases hn) (fun j hj => rfl) (fun j hj => if_neg hj) (fun j hj => rfl)

set_option maxHeartbeats 1600000 in
theorem dstep_up (h : DcS w d lim v k calls) (hk : k < 9223372036854775807) (hv : v ≤ lim) (hl : lim ≤ 4611686018427387903) (i : Nat) (hi : i < 64) (x : CallV) (hx : calls.getD i noCall = x) (ho : x.op = 1) (hld : x.ld = true) (hvl : v = x.old) (hlt : v < lim) :
    Calls Try.prog 30 #[.pointer (some ⟨d, 0, none⟩), .int .i64 (i : Int)] w fun e w' => e = .returned (.tuple #[resV true 0 ((v : Int) + 1), .int .i64 0]) ∧ DcS w' d lim (v + 1) (k + 1) (calls.set i noCall) ∧ Off [d] w w' := by
  obtain ⟨dop, rd, nn, hb, hr⟩ := h
  have hl0 := hb.lt
  have HW := Lib.hid (worker_any (w.alloc (.cells #[.bool false, .int .i64 0, .int .i64 0] 75)) i)
  rw [inB_iff.mpr (by omega)] at HW
  have hn1 : d ∉ [w.heap.size] := by simp; omega
  have hdz : d ≠ w.heap.size := by omega
  have hzd : w.heap.size ∉ [d] := by simp; omega
  have hB := hb
  have e0 := hB.op i hi
  have e1 := hB.rd i hi
  have e2 := hB.nn i hi
  rw [hr.op i hi, hx] at e0
  rw [hr.rd i hi, hx] at e1
  have c0 := hB.c0
  have c1 := hB.c1
  have c2 := hB.c2
  have g1 := hB.fr 1 (by omega)
  have g2 := hB.fr 2 (by omega)
  have f1 := hB.fr (3 + i * 3 + 1) (by omega)
  have f2 := hB.fr (3 + i * 3 + 2) (by omega)
  have lB := hB.lt
  have HR := Lib.hid hr
  have i0 : (0 : Int) ≤ (i : Int) := by omega
  have i1 : (i : Int) < 64 := by omega
  have hvi : (v : Int) ≤ (lim : Int) := by omega
  have HX := Lib.hid hx

  rw [ho, show ((1 : Nat) : Int) = 1 from rfl] at e0
  rw [hld] at e1

  have hno := hr.nn i hi (by rw [hx]; exact hld)
  rw [hx, ← hvl] at hno
  rw [hno] at e2
  clear hvl
  have B0 := (((hB.setK ((k : Int) + 1)).setN ((v : Int) + 1)).off (S := []) ((Off.refl [] _).alloc (.cells #[.bool false, .int .i64 0, .int .i64 0] 75)) (by simp))
  have HO0 := (((Off.refl [d] w).setCell (p := ⟨d, 2, none⟩) (by simp) (.int .i64 ((k : Int) + 1))).setCell (p := ⟨d, 1, none⟩) (by simp) (.int .i64 ((v : Int) + 1))).alloc (.cells #[.bool false, .int .i64 0, .int .i64 0] 75)
  have kz0 := BlkL.new ((w.setCell ⟨d, 2, none⟩ (.int .i64 ((k : Int) + 1))).setCell ⟨d, 1, none⟩ (.int .i64 ((v : Int) + 1))) [.bool false, .int .i64 0, .int .i64 0] 75
  simp only [World.size_setCell] at kz0
  have B1 := Lib.hid (B0.off (S := []) (Off.refl [] _).drew (by simp))
  have HO := Lib.hid HO0.drew
  have KZ := Lib.hid kz0.drew
  clear B0 HO0 kz0
  have hvi2 : (((v + 1 : Nat)) : Int) = ((v : Int) + 1) := by omega
  have HV2 := Lib.hid hvi2
  clear hvi2 hno
  have HE := Lib.hid (dend_any _ d lim B1.out i hi 0 ((v : Int) + 1))
  clear hb hr hB hx
  go_enter Try.func30, Try.ntmps30
  go_wp2_with fail
  with_reducible refine HW.out.mono ?_
  rintro e w1 ⟨rfl, hw⟩
  subst hw
  go_wp2
  go_region
  go_wp2_with fail
  with_reducible refine HE.out.mono ?_
  rintro e w2 ⟨rfl, hd2, hf2⟩
  have k2 := KZ.out.off hf2 hzd
  have m0 := k2.cell 0 _ rfl
  have m1 := k2.cell 1 _ rfl
  have m2 := k2.cell 2 _ rfl
  have p0 := k2.froz 0 (by simp)
  have p1 := k2.froz 1 (by simp)
  have p2 := k2.froz 2 (by simp)
  have pl := k2.lt
  have D2 := Lib.hid hd2
  have O2 := Lib.hid (HO.out.trans hf2)
  have K2 := Lib.hid k2
  clear hd2 hf2 k2 e0 e1 e2 c0 c1 c2 g1 g2 f1 f2
  go_wp2
  have n0 := (K2.out.set 0 (.bool true) (by simp)).cell 0 _ rfl
  have n1 := ((K2.out.set 0 (.bool true) (by simp)).set 1 (.int .i64 0) (by simp)).cell 1 _ rfl
  have n2 := (((K2.out.set 0 (.bool true) (by simp)).set 1 (.int .i64 0) (by simp)).set 2 (.int .i64 ((v : Int) + 1)) (by simp)).cell 2 _ rfl
  refine bodyPost_ret (v := .tuple #[resV true 0 ((v : Int) + 1), .int .i64 0]) (by simp [results, Try.results30, go_sem, n0, n1, n2]) rfl ⟨rfl, ?_, O2.out.res (Nat.le_refl _) _ _ _⟩
  unfold DcS
  rw [HV2.out]
  refine ⟨_, _, _, (D2.out.off (S := [w.heap.size]) ((((Off.refl _ w2).setCell (by simp) _).setCell (by simp) _).setCell (by simp) _) hn1), HR.out.turn hi noCall (if_pos rfl) (if_pos rfl) (fun hn => by cases hn) (fun j hj => (if_neg hj)) (fun j hj => (if_neg hj)) (fun j hj => (if_neg hj))⟩

set_option maxHeartbeats 1600000 in
theorem dstep_down (h : DcS w d lim v k calls) (hk : k < 9223372036854775807) (hv : v ≤ lim) (hl : lim ≤ 4611686018427387903) (i : Nat) (hi : i < 64) (x : CallV) (hx : calls.getD i noCall = x) (ho : x.op = 2) (hld : x.ld = true) (hvl : v = x.old) (hlt : 0 < v) :
    Calls Try.prog 30 #[.pointer (some ⟨d, 0, none⟩), .int .i64 (i : Int)] w fun e w' => e = .returned (.tuple #[resV true 0 ((v : Int) + 1 - 2), .int .i64 0]) ∧ DcS w' d lim (v - 1) (k + 1) (calls.set i noCall) ∧ Off [d] w w' := by
  obtain ⟨dop, rd, nn, hb, hr⟩ := h
  have hl0 := hb.lt
  have HW := Lib.hid (worker_any (w.alloc (.cells #[.bool false, .int .i64 0, .int .i64 0] 75)) i)
  rw [inB_iff.mpr (by omega)] at HW
  have hn1 : d ∉ [w.heap.size] := by simp; omega
  have hdz : d ≠ w.heap.size := by omega
  have hzd : w.heap.size ∉ [d] := by simp; omega
  have hB := hb
  have e0 := hB.op i hi
  have e1 := hB.rd i hi
  have e2 := hB.nn i hi
  rw [hr.op i hi, hx] at e0
  rw [hr.rd i hi, hx] at e1
  have c0 := hB.c0
  have c1 := hB.c1
  have c2 := hB.c2
  have g1 := hB.fr 1 (by omega)
  have g2 := hB.fr 2 (by omega)
  have f1 := hB.fr (3 + i * 3 + 1) (by omega)
  have f2 := hB.fr (3 + i * 3 + 2) (by omega)
  have lB := hB.lt
  have HR := Lib.hid hr
  have i0 : (0 : Int) ≤ (i : Int) := by omega
  have i1 : (i : Int) < 64 := by omega
  have hvi : (v : Int) ≤ (lim : Int) := by omega
  have HX := Lib.hid hx

  rw [ho, show ((2 : Nat) : Int) = 2 from rfl] at e0
  rw [hld] at e1

  have hno := hr.nn i hi (by rw [hx]; exact hld)
  rw [hx, ← hvl] at hno
  rw [hno] at e2
  clear hvl
  have B0 := ((((hB.setK ((k : Int) + 1)).setN ((v : Int) + 1)).setN ((v : Int) + 1 - 2)).off (S := []) ((Off.refl [] _).alloc (.cells #[.bool false, .int .i64 0, .int .i64 0] 75)) (by simp))
  have HO0 := ((((Off.refl [d] w).setCell (p := ⟨d, 2, none⟩) (by simp) (.int .i64 ((k : Int) + 1))).setCell (p := ⟨d, 1, none⟩) (by simp) (.int .i64 ((v : Int) + 1))).setCell (p := ⟨d, 1, none⟩) (by simp) (.int .i64 ((v : Int) + 1 - 2))).alloc (.cells #[.bool false, .int .i64 0, .int .i64 0] 75)
  have kz0 := BlkL.new (((w.setCell ⟨d, 2, none⟩ (.int .i64 ((k : Int) + 1))).setCell ⟨d, 1, none⟩ (.int .i64 ((v : Int) + 1))).setCell ⟨d, 1, none⟩ (.int .i64 ((v : Int) + 1 - 2))) [.bool false, .int .i64 0, .int .i64 0] 75
  simp only [World.size_setCell] at kz0
  have B1 := Lib.hid (B0.off (S := []) (Off.refl [] _).drew (by simp))
  have HO := Lib.hid HO0.drew
  have KZ := Lib.hid kz0.drew
  clear B0 HO0 kz0
  have hvi2 : (((v - 1 : Nat)) : Int) = ((v : Int) + 1 - 2) := by omega
  have HV2 := Lib.hid hvi2
  clear hvi2 hno
  have HE := Lib.hid (dend_any _ d lim B1.out i hi 0 ((v : Int) + 1 - 2))
  have cc := (((hB.setK ((k : Int) + 1)).setN ((v : Int) + 1)).setN ((v : Int) + 1 - 2)).c1
  clear hb hr hB hx
  go_enter Try.func30, Try.ntmps30
  go_wp2_with fail
  with_reducible refine HW.out.mono ?_
  rintro e w1 ⟨rfl, hw⟩
  subst hw
  go_wp2
  go_region
  go_wp2_with fail
  with_reducible refine HE.out.mono ?_
  rintro e w2 ⟨rfl, hd2, hf2⟩
  have k2 := KZ.out.off hf2 hzd
  have m0 := k2.cell 0 _ rfl
  have m1 := k2.cell 1 _ rfl
  have m2 := k2.cell 2 _ rfl
  have p0 := k2.froz 0 (by simp)
  have p1 := k2.froz 1 (by simp)
  have p2 := k2.froz 2 (by simp)
  have pl := k2.lt
  have D2 := Lib.hid hd2
  have O2 := Lib.hid (HO.out.trans hf2)
  have K2 := Lib.hid k2
  clear hd2 hf2 k2 e0 e1 e2 c0 c1 c2 g1 g2 f1 f2
  go_wp2
  have n0 := (K2.out.set 0 (.bool true) (by simp)).cell 0 _ rfl
  have n1 := ((K2.out.set 0 (.bool true) (by simp)).set 1 (.int .i64 0) (by simp)).cell 1 _ rfl
  have n2 := (((K2.out.set 0 (.bool true) (by simp)).set 1 (.int .i64 0) (by simp)).set 2 (.int .i64 ((v : Int) + 1 - 2)) (by simp)).cell 2 _ rfl
  refine bodyPost_ret (v := .tuple #[resV true 0 ((v : Int) + 1 - 2), .int .i64 0]) (by simp [results, Try.results30, go_sem, n0, n1, n2]) rfl ⟨rfl, ?_, O2.out.res (Nat.le_refl _) _ _ _⟩
  unfold DcS
  rw [HV2.out]
  refine ⟨_, _, _, (D2.out.off (S := [w.heap.size]) ((((Off.refl _ w2).setCell (by simp) _).setCell (by simp) _).setCell (by simp) _) hn1), HR.out.turn hi noCall (if_pos rfl) (if_pos rfl) (fun hn => by cases hn) (fun j hj => (if_neg hj)) (fun j hj => (if_neg hj)) (fun j hj => (if_neg hj))⟩

end
end Go.Proofs.Ytddadlomkodgcaa
