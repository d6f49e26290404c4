/- A Counter in memory; contracts: finish, Pending, Value, Steps, Start of count. -/
import Derived.Test.YtddadlomkodgcaaMaD
namespace Go.Proofs.Ytddadlomkodgcaa
open Go.RowKit
set_option maxRecDepth 100000
set_option linter.unusedVariables false

structure CallV where
  op : Nat
  ld : Bool
  old : Nat
def CallV.cells (c : CallV) : List Value := [.int .u8 (c.op : Int), .bool c.ld, .int .u64 (c.old : Int)]
abbrev noCall : CallV := ⟨0, false, 0⟩
def callCs (l : List CallV) : List Value := l.flatMap CallV.cells
theorem callCs_len (l : List CallV) : (callCs l).length = l.length * 3 := by
  induction l with
  | nil => rfl
  | cons a l ih => simp [callCs, CallV.cells] at *; omega
theorem callCs_at (l : List CallV) (i : Nat) (h : i < l.length) : (callCs l)[i * 3]? = some (.int .u8 ((l.getD i noCall).op : Int)) ∧ (callCs l)[i * 3 + 1]? = some (.bool (l.getD i noCall).ld) ∧ (callCs l)[i * 3 + 2]? = some (.int .u64 ((l.getD i noCall).old : Int)) := by
  induction l generalizing i with
  | nil => simp at h
  | cons a l ih =>
    cases i with
    | zero => exact ⟨rfl, rfl, rfl⟩
    | succ i =>
      have := ih i (by simpa using h)
      obtain ⟨t0, t1, t2⟩ := this
      refine ⟨?_, ?_, ?_⟩
      · rw [show (i + 1) * 3 = i * 3 + 1 + 1 + 1 by omega]; exact t0
      · rw [show (i + 1) * 3 + 1 = i * 3 + 1 + 1 + 1 + 1 by omega]; exact t1
      · rw [show (i + 1) * 3 + 2 = i * 3 + 2 + 1 + 1 + 1 by omega]; exact t2
theorem callCs_set (l : List CallV) (i : Nat) (x : CallV) (h : i < l.length) :
    callCs (l.set i x) = (((callCs l).set (i * 3) (.int .u8 (x.op : Int))).set (i * 3 + 1) (.bool x.ld)).set (i * 3 + 2) (.int .u64 (x.old : Int)) := by
  induction l generalizing i with
  | nil => simp at h
  | cons a l ih =>
    cases i with
    | zero => simp [callCs, CallV.cells]
    | succ i =>
      have := ih i (by simpa using h)
      have e : (i + 1) * 3 = i * 3 + 1 + 1 + 1 := by omega
      rw [e]
      simpa [callCs, CallV.cells] using this

/-- The Counter at block c: its limit, its Mach at b (one word, v, in block bw; k accesses), its calls. -/
structure CntS (w : World) (c b bw : Nat) (limit v k : Nat) (calls : List CallV) : Prop where
  blk : BlkL w c (.int .i64 (limit : Int) :: .pointer (some ⟨b, 0, none⟩) :: callCs calls)
  len : calls.length = 64
  m : ∃ ring, MachS w b bw 1 [v] 0 k ring
  ne : c ≠ b
  ne' : c ≠ bw
section
variable {w w' : World} {c b bw limit v k : Nat} {calls : List CallV} {S : List Nat}
theorem CntS.off (h : CntS w c b bw limit v k calls) (hb : Off S w w') (h0 : c ∉ S) (h1 : b ∉ S) (h2 : bw ∉ S) : CntS w' c b bw limit v k calls :=
  ⟨h.blk.off hb h0, h.len, by obtain ⟨r, hm⟩ := h.m; exact ⟨r, hm.off hb h1 h2⟩, h.ne, h.ne'⟩
theorem CntS.below (h : CntS w c b bw limit v k calls) (hb : Below w.heap.size w w') : CntS w' c b bw limit v k calls :=
  h.off (S := []) (Off.of_below hb) (by simp) (by simp) (by simp)
theorem CntS.alloc (h : CntS w c b bw limit v k calls) (o : Obj) : CntS (w.alloc o) c b bw limit v k calls := h.off ((Off.refl [] w).alloc o) (by simp) (by simp) (by simp)
theorem CntS.drew (h : CntS w c b bw limit v k calls) : CntS w.drew c b bw limit v k calls := h.off (Off.refl [] w).drew (by simp) (by simp) (by simp)
theorem CntS.c0 (h : CntS w c b bw limit v k calls) : w.cell? ⟨c, 0, none⟩ = some (.int .i64 (limit : Int)) := h.blk.cell 0 _ rfl
theorem CntS.c1 (h : CntS w c b bw limit v k calls) : w.cell? ⟨c, 1, none⟩ = some (.pointer (some ⟨b, 0, none⟩)) := h.blk.cell 1 _ rfl
theorem cons2_at {α : Type} (x y : α) (r : List α) (i : Nat) : (x :: y :: r)[2 + i]? = r[i]? := by rw [Nat.add_comm 2 i]; rfl
theorem CntS.op (h : CntS w c b bw limit v k calls) {i : Nat} (hi : i < 64) : w.cell? ⟨c, 2 + i * 3, none⟩ = some (.int .u8 ((calls.getD i noCall).op : Int)) :=
  h.blk.cell _ _ ((cons2_at _ _ _ _).trans (callCs_at calls i (by rw [h.len]; exact hi)).1)
theorem CntS.ld (h : CntS w c b bw limit v k calls) {i : Nat} (hi : i < 64) : w.cell? ⟨c, 2 + i * 3 + 1, none⟩ = some (.bool (calls.getD i noCall).ld) :=
  h.blk.cell _ _ ((cons2_at _ _ _ (i * 3 + 1)).trans (callCs_at calls i (by rw [h.len]; exact hi)).2.1)
theorem CntS.old (h : CntS w c b bw limit v k calls) {i : Nat} (hi : i < 64) : w.cell? ⟨c, 2 + i * 3 + 2, none⟩ = some (.int .u64 ((calls.getD i noCall).old : Int)) :=
  h.blk.cell _ _ ((cons2_at _ _ _ (i * 3 + 2)).trans (callCs_at calls i (by rw [h.len]; exact hi)).2.2)
theorem CntS.f (h : CntS w c b bw limit v k calls) {i : Nat} (hi : i < 194) : w.frozen? ⟨c, i, none⟩ = false := h.blk.froz i (by simp [callCs_len, h.len]; omega)
theorem set2 {α : Type} (x y : α) (r : List α) (i : Nat) (v : α) : (x :: y :: r).set (2 + i) v = x :: y :: r.set i v := by
  rw [Nat.add_comm 2 i]; rfl
theorem CntS.put (h : CntS w c b bw limit v k calls) {i : Nat} (hi : i < 64) (x : CallV) :
    CntS (((w.setCell ⟨c, 2 + i * 3, none⟩ (.int .u8 (x.op : Int))).setCell ⟨c, 2 + i * 3 + 1, none⟩ (.bool x.ld)).setCell ⟨c, 2 + i * 3 + 2, none⟩ (.int .u64 (x.old : Int))) c b bw limit v k (calls.set i x) := by
  refine ⟨?_, by simp [h.len], ?_, h.ne, h.ne'⟩
  · rw [callCs_set calls i x (by rw [h.len]; exact hi), ← set2, ← set2, ← set2]
    have hl : 2 + i * 3 + 2 < 194 := by omega
    exact ((h.blk.set (2 + i * 3) _ (by simp [callCs_len, h.len]; omega)).set (2 + i * 3 + 1) _ (by simp [callCs_len, h.len]; omega)).set (2 + i * 3 + 2) _ (by simp [callCs_len, h.len]; omega)
  · obtain ⟨r, hm⟩ := h.m
    exact ⟨r, hm.off (S := [c]) ((((Off.refl [c] w).setCell (by simp) _).setCell (by simp) _).setCell (by simp) _) (by simpa using Ne.symm h.ne) (by simpa using Ne.symm h.ne')⟩
theorem CntS.put_off (i : Nat) (v0 v1 v2 : Value) : Off [c, b, bw] w (((w.setCell ⟨c, 2 + i * 3, none⟩ v0).setCell ⟨c, 2 + i * 3 + 1, none⟩ v1).setCell ⟨c, 2 + i * 3 + 2, none⟩ v2) :=
  (((Off.refl _ w).setCell (by simp) _).setCell (by simp) _).setCell (by simp) _
end

section
variable (w : World) (c b bw limit v k : Nat) (calls : List CallV)
theorem pend_nil (who : Int) : Calls Try.prog 32 #[.pointer none, .int .i64 who] w fun e w' => e = .returned (.bool false) ∧ w = w' := by
  go_enter Try.func32, Try.ntmps32
  go_wp2
  go_ret
  exact ⟨rfl, rfl⟩
theorem pend_bad (who : Int) (hb : inB who 64 = false) : Calls Try.prog 32 #[.pointer (some ⟨c, 0, none⟩), .int .i64 who] w fun e w' => e = .returned (.bool false) ∧ w = w' := by
  have HW := Lib.hid (cWho_any w who)
  rw [hb] at HW
  clear hb
  go_enter Try.func32, Try.ntmps32
  go_wp2_with fail
  with_reducible refine HW.out.mono ?_
  rintro e w1 ⟨rfl, hw⟩
  subst hw
  go_wp2
  go_ret
  exact ⟨rfl, rfl⟩
theorem pend_at (h : CntS w c b bw limit v k calls) (i : Nat) (hi : i < 64) (x : CallV) (hx : calls.getD i noCall = x) : Calls Try.prog 32 #[.pointer (some ⟨c, 0, none⟩), .int .i64 (i : Int)] w fun e w' => e = .returned (.bool (decide (x.op ≠ 0))) ∧ w = w' := by
  have HW := Lib.hid (cWho_any w i)
  have hb : inB (i : Int) 64 = true := inB_iff.mpr (by omega)
  rw [hb] at HW
  have hc := h.op hi
  rw [hx] at hc
  clear hb h hx
  have e : decide (x.op ≠ 0) = decide ((x.op : Int) ≠ 0) := by
    by_cases hz : x.op = 0
    · simp [hz]
    · simp [hz]
  rw [e]
  clear e
  go_enter Try.func32, Try.ntmps32
  go_wp2_with fail
  with_reducible refine HW.out.mono ?_
  rintro e w1 ⟨rfl, hw⟩
  subst hw
  go_wp2
  go_ret
  refine ⟨?_, rfl⟩
  by_cases hz : x.op = 0
  · simp [hz]
  · have h2 : ¬ ((x.op : Int) = 0) := by omega
    simp [hz]
set_option maxHeartbeats 800000 in
theorem finish_any (h : CntS w c b bw limit v k calls) (i : Nat) (hi : i < 64) (d : Bool) (e n : Int) :
    Calls Try.prog 73 #[.pointer (some ⟨c, 0, none⟩), .int .i64 (i : Int), .agg #[.bool d, .int .i64 e, .int .i64 n]] w fun x w' => x = .returned (.agg #[.bool d, .int .i64 e, .int .i64 n]) ∧
      CntS w' c b bw limit v k (calls.set i noCall) ∧ Off [c, b, bw] w w' := by
  have c0 := h.op hi
  have c1 := h.ld hi
  have c2 := h.old hi
  have f0 := h.f (i := 2 + i * 3) (by omega)
  have f1 := h.f (i := 2 + i * 3 + 1) (by omega)
  have f2 := h.f (i := 2 + i * 3 + 2) (by omega)
  have hlt := h.blk.lt
  have H := Lib.hid (h.put hi noCall)
  have HO := Lib.hid (CntS.put_off (w := w) (c := c) (b := b) (bw := bw) i (.int .u8 0) (.bool false) (.int .u64 0))
  clear h
  go_enter Try.func73, Try.ntmps73
  go_wp2
  refine bodyPost_ret (v := .agg #[.bool d, .int .i64 e, .int .i64 n]) (by simp [results, Try.results73, go_sem]) rfl ⟨rfl, (H.out.alloc _).alloc _, (HO.out.alloc _).alloc _⟩
theorem word0 (v : Nat) (k : Nat) (clk : Int) (r : List Value) (h : MachS w b bw 1 [v] clk k r) :
    Calls Try.prog 22 #[.pointer (some ⟨b, 0, none⟩), .int .i64 0] w fun e w' => e = .returned (.tuple #[.int .u64 (v : Int), .int .i64 0]) ∧ w = w' :=
  word_at w b bw 1 [v] clk k r h 0 (by omega)
theorem value_any (h : CntS w c b bw limit v k calls) (hv : v ≤ 9223372036854775807) :
    Calls Try.prog 34 #[.pointer (some ⟨c, 0, none⟩)] w fun e w' => e = .returned (.int .i64 (v : Int)) ∧ w = w' := by
  obtain ⟨r, hm⟩ := h.m
  have c1 := h.c1
  have HW := Lib.hid (word0 w b bw v k 0 r hm)
  clear h hm
  go_enter Try.func34, Try.ntmps34
  go_wp2_with fail
  with_reducible refine HW.out.mono ?_
  rintro e w1 ⟨rfl, hw⟩
  subst hw
  go_wp2
  go_ret
  exact ⟨rfl, rfl⟩
theorem steps_any (h : CntS w c b bw limit v k calls) :
    Calls Try.prog 35 #[.pointer (some ⟨c, 0, none⟩)] w fun e w' => e = .returned (.int .i64 (k : Int)) ∧ w = w' := by
  obtain ⟨r, hm⟩ := h.m
  have c1 := h.c1
  have HW := Lib.hid (mcount_any w b bw 1 [v] 0 k r hm)
  clear h hm
  go_enter Try.func35, Try.ntmps35
  go_wp2_with fail
  with_reducible refine HW.out.mono ?_
  rintro e w1 ⟨rfl, hw⟩
  subst hw
  go_wp2
  go_ret
  exact ⟨rfl, rfl⟩
end
end Go.Proofs.Ytddadlomkodgcaa
