/- The document's counter in memory; contracts: Worker, DocNew, DocStart, Pending, end. -/
import Derived.Test.YtddadlomkodgcaaHoM
import Derived.Test.YtddadlomkodgcaaTick
namespace Go.Proofs.Ytddadlomkodgcaa
open Go.RowKit
set_option maxRecDepth 100000
set_option linter.unusedVariables false

def updB (f : Nat → Bool) (q : Nat) (x : Bool) : Nat → Bool := fun t => if t = q then x else f t
structure DcB (w : World) (d : Nat) (lim v k : Int) (op : Nat → Int) (rd : Nat → Bool) (nn : Nat → Int) : Prop where
  lt : d < w.heap.size
  c0 : w.cell? ⟨d, 0, none⟩ = some (.int .i64 lim)
  c1 : w.cell? ⟨d, 1, none⟩ = some (.int .i64 v)
  c2 : w.cell? ⟨d, 2, none⟩ = some (.int .i64 k)
  op : ∀ q, q < 64 → w.cell? ⟨d, 3 + q * 3, none⟩ = some (.int .u8 (op q))
  rd : ∀ q, q < 64 → w.cell? ⟨d, 3 + q * 3 + 1, none⟩ = some (.bool (rd q))
  nn : ∀ q, q < 64 → w.cell? ⟨d, 3 + q * 3 + 2, none⟩ = some (.int .i64 (nn q))
  fr : ∀ i, i < 195 → w.frozen? ⟨d, i, none⟩ = false
section
variable {w w' : World} {d : Nat} {lim v k : Int} {op : Nat → Int} {rd : Nat → Bool} {nn : Nat → Int} {S : List Nat}
theorem DcB.off (h : DcB w d lim v k op rd nn) (hb : Off S w w') (hs : d ∉ S) : DcB w' d lim v k op rd nn :=
  ⟨Nat.lt_of_lt_of_le h.lt hb.size, (hb.cell (p := ⟨d, 0, none⟩) h.lt hs).trans h.c0, (hb.cell (p := ⟨d, 1, none⟩) h.lt hs).trans h.c1, (hb.cell (p := ⟨d, 2, none⟩) h.lt hs).trans h.c2,
    fun q hq => (hb.cell (p := ⟨d, 3 + q * 3, none⟩) h.lt hs).trans (h.op q hq), fun q hq => (hb.cell (p := ⟨d, 3 + q * 3 + 1, none⟩) h.lt hs).trans (h.rd q hq), fun q hq => (hb.cell (p := ⟨d, 3 + q * 3 + 2, none⟩) h.lt hs).trans (h.nn q hq),
    fun i hi => (hb.frozen (p := ⟨d, i, none⟩) h.lt hs).trans (h.fr i hi)⟩
theorem DcB.setN (h : DcB w d lim v k op rd nn) (x : Int) : DcB (w.setCell ⟨d, 1, none⟩ (.int .i64 x)) d lim x k op rd nn := by
  refine ⟨by simpa using h.lt, ?_, ?_, ?_, fun q hq => ?_, fun q hq => ?_, fun q hq => ?_, fun i hi => by simpa using h.fr i hi⟩
  · rw [cell_set h.c1, if_neg (by omega)]; exact h.c0
  · rw [cell_set h.c1, if_pos rfl]
  · rw [cell_set h.c1, if_neg (by omega)]; exact h.c2
  · rw [cell_set h.c1, if_neg (by omega)]; exact h.op q hq
  · rw [cell_set h.c1, if_neg (by omega)]; exact h.rd q hq
  · rw [cell_set h.c1, if_neg (by omega)]; exact h.nn q hq
theorem DcB.setK (h : DcB w d lim v k op rd nn) (x : Int) : DcB (w.setCell ⟨d, 2, none⟩ (.int .i64 x)) d lim v x op rd nn := by
  refine ⟨by simpa using h.lt, ?_, ?_, ?_, fun q hq => ?_, fun q hq => ?_, fun q hq => ?_, fun i hi => by simpa using h.fr i hi⟩
  · rw [cell_set h.c2, if_neg (by omega)]; exact h.c0
  · rw [cell_set h.c2, if_neg (by omega)]; exact h.c1
  · rw [cell_set h.c2, if_pos rfl]
  · rw [cell_set h.c2, if_neg (by omega)]; exact h.op q hq
  · rw [cell_set h.c2, if_neg (by omega)]; exact h.rd q hq
  · rw [cell_set h.c2, if_neg (by omega)]; exact h.nn q hq
theorem DcB.setOp (h : DcB w d lim v k op rd nn) {j : Nat} (hj : j < 64) (x : Int) : DcB (w.setCell ⟨d, 3 + j * 3, none⟩ (.int .u8 x)) d lim v k (updI op j x) rd nn := by
  refine ⟨by simpa using h.lt, ?_, ?_, ?_, fun q hq => ?_, fun q hq => ?_, fun q hq => ?_, fun i hi => by simpa using h.fr i hi⟩
  · rw [cell_set (h.op j hj), if_neg (by omega)]; exact h.c0
  · rw [cell_set (h.op j hj), if_neg (by omega)]; exact h.c1
  · rw [cell_set (h.op j hj), if_neg (by omega)]; exact h.c2
  · rw [cell_set (h.op j hj)]; unfold updI
    by_cases e : q = j
    · rw [if_pos (by omega), if_pos e]
    · rw [if_neg (by omega), if_neg e]; exact h.op q hq
  · rw [cell_set (h.op j hj), if_neg (by omega)]; exact h.rd q hq
  · rw [cell_set (h.op j hj), if_neg (by omega)]; exact h.nn q hq
theorem DcB.setRd (h : DcB w d lim v k op rd nn) {j : Nat} (hj : j < 64) (x : Bool) : DcB (w.setCell ⟨d, 3 + j * 3 + 1, none⟩ (.bool x)) d lim v k op (updB rd j x) nn := by
  refine ⟨by simpa using h.lt, ?_, ?_, ?_, fun q hq => ?_, fun q hq => ?_, fun q hq => ?_, fun i hi => by simpa using h.fr i hi⟩
  · rw [cell_set (h.rd j hj), if_neg (by omega)]; exact h.c0
  · rw [cell_set (h.rd j hj), if_neg (by omega)]; exact h.c1
  · rw [cell_set (h.rd j hj), if_neg (by omega)]; exact h.c2
  · rw [cell_set (h.rd j hj), if_neg (by omega)]; exact h.op q hq
  · rw [cell_set (h.rd j hj)]; unfold updB
    by_cases e : q = j
    · rw [if_pos (by omega), if_pos e]
    · rw [if_neg (by omega), if_neg e]; exact h.rd q hq
  · rw [cell_set (h.rd j hj), if_neg (by omega)]; exact h.nn q hq
theorem DcB.setNn (h : DcB w d lim v k op rd nn) {j : Nat} (hj : j < 64) (x : Int) : DcB (w.setCell ⟨d, 3 + j * 3 + 2, none⟩ (.int .i64 x)) d lim v k op rd (updI nn j x) := by
  refine ⟨by simpa using h.lt, ?_, ?_, ?_, fun q hq => ?_, fun q hq => ?_, fun q hq => ?_, fun i hi => by simpa using h.fr i hi⟩
  · rw [cell_set (h.nn j hj), if_neg (by omega)]; exact h.c0
  · rw [cell_set (h.nn j hj), if_neg (by omega)]; exact h.c1
  · rw [cell_set (h.nn j hj), if_neg (by omega)]; exact h.c2
  · rw [cell_set (h.nn j hj), if_neg (by omega)]; exact h.op q hq
  · rw [cell_set (h.nn j hj), if_neg (by omega)]; exact h.rd q hq
  · rw [cell_set (h.nn j hj)]; unfold updI
    by_cases e : q = j
    · rw [if_pos (by omega), if_pos e]
    · rw [if_neg (by omega), if_neg e]; exact h.nn q hq
theorem DcB.put (h : DcB w d lim v k op rd nn) {j : Nat} (hj : j < 64) (x : Int) (y : Bool) (z : Int) :
    DcB (((w.setCell ⟨d, 3 + j * 3, none⟩ (.int .u8 x)).setCell ⟨d, 3 + j * 3 + 1, none⟩ (.bool y)).setCell ⟨d, 3 + j * 3 + 2, none⟩ (.int .i64 z)) d lim v k (updI op j x) (updB rd j y) (updI nn j z) :=
  ((h.setOp hj x).setRd hj y).setNn hj z
end
/-- The calls that the document's record holds. -/
structure DcR (calls : List CallV) (op : Nat → Int) (rd : Nat → Bool) (nn : Nat → Int) : Prop where
  len : calls.length = 64
  op : ∀ q, q < 64 → op q = ((calls.getD q noCall).op : Int)
  rd : ∀ q, q < 64 → rd q = (calls.getD q noCall).ld
  nn : ∀ q, q < 64 → (calls.getD q noCall).ld = true → nn q = ((calls.getD q noCall).old : Int)
theorem DcR.turn {calls : List CallV} {op op' : Nat → Int} {rd rd' : Nat → Bool} {nn nn' : Nat → Int} (h : DcR calls op rd nn) {q : Nat} (hq : q < 64) (x : CallV)
    (e1 : op' q = (x.op : Int)) (e2 : rd' q = x.ld) (e3 : x.ld = true → nn' q = (x.old : Int)) (f1 : ∀ j, j ≠ q → op' j = op j) (f2 : ∀ j, j ≠ q → rd' j = rd j) (f3 : ∀ j, j ≠ q → nn' j = nn j) : DcR (calls.set q x) op' rd' nn' := by
  have g : ∀ j, (calls.set q x).getD j noCall = if q = j then x else calls.getD j noCall := fun j => getD_set _ _ _ _ _ (by rw [h.len]; exact hq)
  refine ⟨by simp [h.len], fun j hj => ?_, fun j hj => ?_, fun j hj => ?_⟩
  · rw [g]; split
    · rename_i e; subst e; exact e1
    · rename_i e; rw [f1 j (fun c => e c.symm)]; exact h.op j hj
  · rw [g]; split
    · rename_i e; subst e; exact e2
    · rename_i e; rw [f2 j (fun c => e c.symm)]; exact h.rd j hj
  · rw [g]; split
    · rename_i e; subst e; exact e3
    · rename_i e; rw [f3 j (fun c => e c.symm)]; exact h.nn j hj
def DcS (w : World) (d lim v k : Nat) (calls : List CallV) : Prop := ∃ op rd nn, DcB w d lim v k op rd nn ∧ DcR calls op rd nn
theorem DcS.off {w w' : World} {d lim v k : Nat} {calls : List CallV} {S : List Nat} (h : DcS w d lim v k calls) (hb : Off S w w') (hs : d ∉ S) : DcS w' d lim v k calls := by
  obtain ⟨op, rd, nn, h1, h2⟩ := h
  exact ⟨op, rd, nn, h1.off hb hs, h2⟩
theorem DcS.lt {w : World} {d lim v k : Nat} {calls : List CallV} (h : DcS w d lim v k calls) : d < w.heap.size := by
  obtain ⟨op, rd, nn, h1, h2⟩ := h
  exact h1.lt

theorem worker_any (w : World) (n : Int) : Calls Try.prog 56 #[.int .i64 n] w fun e w' => e = .returned (.bool (inB n 64)) ∧ w = w' := by
  go_enter Try.func56, Try.ntmps56
  rcases h : decide (0 ≤ n) with _ | _
  · have e : inB n 64 = false := by unfold inB; rw [h]; rfl
    go_wp2
    go_ret
    exact ⟨by rw [e]; rfl, rfl⟩
  · have e : inB n 64 = decide (n < 64) := by unfold inB; rw [h]; rfl
    go_wp2
    go_ret
    exact ⟨by rw [e]; rfl, rfl⟩
theorem dpend_nil (w : World) (who : Int) : Calls Try.prog 33 #[.pointer none, .int .i64 who] w fun e w' => e = .returned (.bool false) ∧ w = w' := by
  go_enter Try.func33, Try.ntmps33
  go_wp2
  go_ret
  exact ⟨rfl, rfl⟩
theorem dpend_bad (w : World) (d : Nat) (who : Int) (hb : inB who 64 = false) : Calls Try.prog 33 #[.pointer (some ⟨d, 0, none⟩), .int .i64 who] w fun e w' => e = .returned (.bool false) ∧ w = w' := by
  have HW := Lib.hid (worker_any w who)
  rw [hb] at HW
  clear hb
  go_enter Try.func33, Try.ntmps33
  go_wp2_with fail
  with_reducible refine HW.out.mono ?_
  rintro e w1 ⟨rfl, hw⟩
  subst hw
  go_wp2
  go_ret
  exact ⟨rfl, rfl⟩
theorem dpend_at (w : World) (d lim v k : Nat) (calls : List CallV) (h : DcS w d lim v k calls) (i : Nat) (hi : i < 64) (x : CallV) (hx : calls.getD i noCall = x) :
    Calls Try.prog 33 #[.pointer (some ⟨d, 0, none⟩), .int .i64 (i : Int)] w fun e w' => e = .returned (.bool (decide (x.op ≠ 0))) ∧ w = w' := by
  obtain ⟨op, rd, nn, hb, hr⟩ := h
  have HW := Lib.hid (worker_any w i)
  rw [inB_iff.mpr (by omega)] at HW
  have e0 := hb.op i hi
  rw [hr.op i hi, hx] at e0
  have hl := hb.lt
  have i0 : (0 : Int) ≤ (i : Int) := by omega
  have i1 : (i : Int) < 64 := by omega
  have e : decide (x.op ≠ 0) = decide ((x.op : Int) ≠ 0) := by
    by_cases hz : x.op = 0
    · simp [hz]
    · simp [hz]
  rw [e]
  clear e hr hb hx
  go_enter Try.func33, Try.ntmps33
  go_wp2_with fail
  with_reducible refine HW.out.mono ?_
  rintro e w1 ⟨rfl, hw⟩
  subst hw
  go_wp2
  go_ret
  refine ⟨?_, rfl⟩
  by_cases hz : x.op = 0
  · simp [hz]
  · simp [hz]
theorem dstart_bad (w : World) (p : Value) (who : Int) (op : Nat) (hb : inB who 64 = false ∨ op < 1 ∨ 3 < op) :
    Calls Try.prog 28 #[p, .int .i64 who, .int .u8 (op : Int)] w fun e w' => e = .returned (.int .i64 1) ∧ w = w' := by
  have HW := Lib.hid (worker_any w who)
  rcases h1 : inB who 64 with _ | _
  · rw [h1] at HW
    clear hb h1
    go_enter Try.func28, Try.ntmps28
    go_wp2_with fail
    with_reducible refine HW.out.mono ?_
    rintro e w1 ⟨rfl, hw⟩
    subst hw
    go_wp2
    go_ret
    exact ⟨rfl, rfl⟩
  · rw [h1] at HW hb
    rcases Nat.lt_or_ge op 1 with h2 | h2
    · have d1 : (op : Int) < 1 := by omega
      clear hb h1
      go_enter Try.func28, Try.ntmps28
      go_wp2_with fail
      with_reducible refine HW.out.mono ?_
      rintro e w1 ⟨rfl, hw⟩
      subst hw
      go_wp2
      go_ret
      exact ⟨rfl, rfl⟩
    · have h3 : 3 < op := by
        rcases hb with h | h | h
        · cases h
        · omega
        · exact h
      have d1 : ¬ (op : Int) < 1 := by omega
      have d3 : (3 : Int) < (op : Int) := by omega
      clear hb h1
      go_enter Try.func28, Try.ntmps28
      go_wp2_with fail
      with_reducible refine HW.out.mono ?_
      rintro e w1 ⟨rfl, hw⟩
      subst hw
      go_wp2
      go_ret
      exact ⟨rfl, rfl⟩
theorem dstart_nil (w : World) (who : Int) (op : Nat) (hw : inB who 64 = true) (h1 : 1 ≤ op) (h3 : op ≤ 3) :
    Calls Try.prog 28 #[.pointer none, .int .i64 who, .int .u8 (op : Int)] w fun e w' => e = .returned (.int .i64 7) ∧ w = w' := by
  have HW := Lib.hid (worker_any w who)
  rw [hw] at HW
  have d1 : ¬ (op : Int) < 1 := by omega
  have d3 : ¬ (3 : Int) < (op : Int) := by omega
  clear hw
  go_enter Try.func28, Try.ntmps28
  go_wp2_with fail
  with_reducible refine HW.out.mono ?_
  rintro e w1 ⟨rfl, hw⟩
  subst hw
  go_wp2
  go_ret
  exact ⟨rfl, rfl⟩
section
variable (w : World) (d lim v k : Nat) (calls : List CallV)
theorem dstart_busy (h : DcS w d lim v k calls) (i : Nat) (hi : i < 64) (op : Nat) (h1 : 1 ≤ op) (h3 : op ≤ 3) (hx : (calls.getD i noCall).op ≠ 0) :
    Calls Try.prog 28 #[.pointer (some ⟨d, 0, none⟩), .int .i64 (i : Int), .int .u8 (op : Int)] w fun e w' => e = .returned (.int .i64 9) ∧ w = w' := by
  obtain ⟨dop, rd, nn, hb, hr⟩ := h
  have HW := Lib.hid (worker_any w i)
  rw [inB_iff.mpr (by omega)] at HW
  have e0 := hb.op i hi
  rw [hr.op i hi] at e0
  have hl := hb.lt
  generalize (calls.getD i noCall).op = y at hx e0
  have hy : ¬ (y : Int) = 0 := by omega
  have i0 : (0 : Int) ≤ (i : Int) := by omega
  have i1 : (i : Int) < 64 := by omega
  have d1 : ¬ (op : Int) < 1 := by omega
  have d3 : ¬ (3 : Int) < (op : Int) := by omega
  clear hb hr hx
  go_enter Try.func28, Try.ntmps28
  go_wp2_with fail
  with_reducible refine HW.out.mono ?_
  rintro e w1 ⟨rfl, hw⟩
  subst hw
  go_wp2
  go_ret
  exact ⟨rfl, rfl⟩
set_option maxHeartbeats 800000 in
theorem dstart_ok (h : DcS w d lim v k calls) (i : Nat) (hi : i < 64) (op : Nat) (h1 : 1 ≤ op) (h3 : op ≤ 3) (hx : (calls.getD i noCall).op = 0) :
    Calls Try.prog 28 #[.pointer (some ⟨d, 0, none⟩), .int .i64 (i : Int), .int .u8 (op : Int)] w fun e w' => e = .returned (.int .i64 0) ∧
      DcS w' d lim v k (calls.set i ⟨op, false, 0⟩) ∧ Off [d] w w' := by
  obtain ⟨dop, rd, nn, hb, hr⟩ := h
  have HW := Lib.hid (worker_any w i)
  rw [inB_iff.mpr (by omega)] at HW
  have e0 := hb.op i hi
  rw [hr.op i hi, hx] at e0
  have e1 := hb.rd i hi
  have e2 := hb.nn i hi
  have f0 := hb.fr (3 + i * 3) (by omega)
  have f1 := hb.fr (3 + i * 3 + 1) (by omega)
  have f2 := hb.fr (3 + i * 3 + 2) (by omega)
  have hl := hb.lt
  have HB := Lib.hid (hb.put hi (op : Int) false 0)
  have HR := Lib.hid (hr.turn hi ⟨op, false, 0⟩ (op' := updI dop i op) (rd' := updB rd i false) (nn' := updI nn i 0) (if_pos rfl) (if_pos rfl) (fun hn => by cases hn) (fun j hj => if_neg hj) (fun j hj => if_neg hj) (fun j hj => if_neg hj))
  have HO : Hid (Off [d] w (((w.setCell ⟨d, 3 + i * 3, none⟩ (.int .u8 (op : Int))).setCell ⟨d, 3 + i * 3 + 1, none⟩ (.bool false)).setCell ⟨d, 3 + i * 3 + 2, none⟩ (.int .i64 0))) :=
    Lib.hid ((((Off.refl _ w).setCell (by simp) _).setCell (by simp) _).setCell (by simp) _)
  have i0 : (0 : Int) ≤ (i : Int) := by omega
  have i1 : (i : Int) < 64 := by omega
  have d1 : ¬ (op : Int) < 1 := by omega
  have d3 : ¬ (3 : Int) < (op : Int) := by omega
  clear hb hr hx
  go_enter Try.func28, Try.ntmps28
  go_wp2_with fail
  with_reducible refine HW.out.mono ?_
  rintro e w1 ⟨rfl, hw⟩
  subst hw
  go_wp2
  go_ret
  exact ⟨rfl, ⟨_, _, _, HB.out, HR.out⟩, HO.out⟩
theorem dend_any {dop : Nat → Int} {rd : Nat → Bool} {nn : Nat → Int} {v k : Int} (h : DcB w d lim v k dop rd nn) (i : Nat) (hi : i < 64) (e n : Int) :
    Calls Try.prog 59 #[.pointer (some ⟨d, 0, none⟩), .int .i64 (i : Int), .int .i64 e, .int .i64 n] w fun x w' => x = .returned (.agg #[.bool true, .int .i64 e, .int .i64 n]) ∧
      DcB w' d lim v k (updI dop i 0) (updB rd i false) (updI nn i 0) ∧ Off [d] w w' := by
  have e0 := h.op i hi
  have e1 := h.rd i hi
  have e2 := h.nn i hi
  have f0 := h.fr (3 + i * 3) (by omega)
  have f1 := h.fr (3 + i * 3 + 1) (by omega)
  have f2 := h.fr (3 + i * 3 + 2) (by omega)
  have hl := h.lt
  have hdz : d ≠ w.heap.size := by omega
  have i0 : (0 : Int) ≤ (i : Int) := by omega
  have i1 : (i : Int) < 64 := by omega
  have HH := Lib.hid h
  clear h
  go_enter Try.func59, Try.ntmps59
  go_wp2
  refine bodyPost_ret (v := .agg #[.bool true, .int .i64 e, .int .i64 n]) (by simp [results, Try.results59, go_sem]) rfl ⟨rfl, ?_, ?_⟩
  · exact (HH.out.put hi 0 false 0).off (S := []) ((Off.refl _ _).alloc _) (by simp)
  · exact ((((Off.refl [d] w).setCell (by simp) _).setCell (by simp) _).setCell (by simp) _).alloc _
end
end Go.Proofs.Ytddadlomkodgcaa
