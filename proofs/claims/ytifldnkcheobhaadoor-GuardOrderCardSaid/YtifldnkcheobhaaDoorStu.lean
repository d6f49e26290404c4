/- What Go itself answers by a panic: each class. -/
import Derived.Test.YtifldnkcheobhaaDoorCaG
import Derived.Laws.PanicsMore
import Derived.Stop.Asserts
namespace Go.Proofs.YtifldnkcheobhaaDoor
open Go.RowKit
set_option maxRecDepth 100000
set_option linter.unusedVariables false
set_option linter.unusedSimpArgs false
set_option maxHeartbeats 4000000

/-- What Go met. -/
def StuE (w : World) (e : Ending) (w' : World) : Prop := ∃ met, e = .panicked [{ v := met, recovered := false }] ∧ MetOk met ∧ Off [] w w'
theorem bounds_off {α : Type} (w : World) (k : IntKind) (x y : Int) (code : BoundsCode) :
    ∃ met w', (boundsPanic k x y code : Sem α).run Tryd.prog w = .halt (.panic met) w' ∧ MetOk met ∧ Off [] w w' := by
  unfold boundsPanic
  split
  · refine ⟨_, _, by simp [runtimePanic, goPanic, go_sem]; exact ⟨rfl, rfl⟩, Or.inr ⟨_, _, rfl, Or.inl (by kernel_rfl)⟩, (Off.refl [] w).drew⟩
  · refine ⟨_, _, by simp [runtimePanic, goPanic, go_sem]; exact ⟨rfl, rfl⟩, Or.inr ⟨_, _, rfl, Or.inl (by kernel_rfl)⟩, Off.refl [] w⟩
theorem met_err (s : Value) : MetOk (.iface Tryd.prog.rt.errorString s) := Or.inr ⟨_, _, rfl, Or.inr (Or.inl (by kernel_rfl))⟩
theorem met_plain (s : Value) : MetOk (.iface Tryd.prog.rt.plainError s) := Or.inr ⟨_, _, rfl, Or.inr (Or.inr (Or.inl (by kernel_rfl)))⟩
theorem met_bounds (s : Value) : MetOk (.iface Tryd.prog.rt.boundsError s) := Or.inr ⟨_, _, rfl, Or.inl (by kernel_rfl)⟩
theorem stu15 (w : World) : Calls Tryd.prog 71 #[.int .u8 15] w (StuE w) := by
  go_enter Tryd.func71, Tryd.ntmps71
  go_wp2
  exact ⟨rfl, _, rfl, met_err _, Off.refl _ _⟩
theorem stu18 (w : World) : Calls Tryd.prog 71 #[.int .u8 18] w (StuE w) := by
  have h1 := fun w => run_mapUpdate_nil (P := Tryd.prog) (w := w) 172 3 3 Tryd.underlying172
  go_enter Tryd.func71, Tryd.ntmps71
  go_wp2
  exact ⟨rfl, _, rfl, met_plain _, Off.refl _ _⟩
theorem stu19 (w : World) : Calls Tryd.prog 71 #[.int .u8 19] w (StuE w) := by
  go_enter Tryd.func71, Tryd.ntmps71
  go_wp2
  exact ⟨rfl, _, rfl, met_err _, Off.refl _ _⟩
theorem ta20 (w : World) : ∃ met w', (Instr.typeAssert .nilIface 20 3 false).run Tryd.prog w = .halt (.panic met) w' ∧ MetOk met ∧ Off [] w w' := by
  refine ⟨.iface 15 (.pointer (some ⟨w.heap.size, 0, none⟩)), w.alloc (.cells #[.pointer (some ⟨6, 20, none⟩), .pointer none, .pointer (some ⟨6, 3, none⟩), strVal ""] 197), by kernel_rfl, Or.inr ⟨_, _, rfl, Or.inr (Or.inr (Or.inr (Or.inl rfl)))⟩, (Off.refl [] w).alloc _⟩
theorem stu20 (w : World) : Calls Tryd.prog 71 #[.int .u8 20] w (StuE w) := by
  obtain ⟨met, w2, h1, h2, h3⟩ := ta20 w
  go_enter Tryd.func71, Tryd.ntmps71
  go_wp2
  exact ⟨rfl, _, rfl, h2, h3⟩
theorem pan14 (w : World) : ∃ met w', (Instr.panic .nilIface).run Tryd.prog w = .halt (.panic met) w' ∧ MetOk met ∧ Off [] w w' := by
  obtain ⟨n, hn⟩ : ∃ n, (Instr.panicnil).run Tryd.prog w = .ok n w := ⟨_, rfl⟩
  unfold Instr.panic
  simp only [Sem.run_bind, hn, Result.andThen]
  split
  · exact ⟨_, _, rfl, Or.inl rfl, Off.refl _ _⟩
  · exact ⟨.iface 16 (.pointer (some ⟨w.heap.size, 0, none⟩)), w.alloc (.cells #[] 200), by kernel_rfl, Or.inr ⟨_, _, rfl, Or.inr (Or.inr (Or.inr (Or.inr rfl)))⟩, (Off.refl [] w).alloc _⟩
theorem ix16 (w : World) : ∃ met w', (Instr.indexAt 171 (.slice none 0 0) (.int .i64 0)).run Tryd.prog w = .halt (.panic met) w' ∧ MetOk met ∧ Off [] w w' := by
  have e : (Instr.indexAt 171 (.slice none 0 0) (.int .i64 0)).run Tryd.prog w = (boundsPanic .i64 0 0 .index).run Tryd.prog w := by
    simp [Instr.indexAt, run_underlying Tryd.underlying171, asIntOf]
  rw [e]
  exact bounds_off w _ _ _ _
theorem ar21 (w : World) : ∃ met w', (Instr.arrayAt 174 (.slice none 0 0)).run Tryd.prog w = .halt (.panic met) w' ∧ MetOk met ∧ Off [] w w' := by
  refine ⟨_, w, by simp [Instr.arrayAt, run_underlying Tryd.underlying174, runtimePanic, goPanic, go_sem]; exact rfl, met_bounds _, Off.refl _ _⟩
theorem mk24 (w : World) : ∃ met w', (Instr.makeSlice 171 (.int .i64 (-1)) (.int .i64 (-1))).run Tryd.prog w = .halt (.panic met) w' ∧ MetOk met ∧ Off [] w w' :=
  ⟨.iface 10 (strVal "makeslice: len out of range"), w, by kernel_rfl, Or.inr ⟨_, _, rfl, Or.inr (Or.inl rfl)⟩, Off.refl _ _⟩
theorem stu14 (w : World) : Calls Tryd.prog 71 #[.int .u8 14] w (StuE w) := by
  obtain ⟨met, w2, h1, h2, h3⟩ := pan14 w
  go_enter Tryd.func71, Tryd.ntmps71
  go_wp2
  exact ⟨rfl, _, rfl, h2, h3⟩
theorem stu16 (w : World) : Calls Tryd.prog 71 #[.int .u8 16] w (StuE w) := by
  obtain ⟨met, w2, h1, h2, h3⟩ := ix16 w
  go_enter Tryd.func71, Tryd.ntmps71
  go_wp2
  exact ⟨rfl, _, rfl, h2, h3⟩
theorem stu17 (w : World) : Calls Tryd.prog 71 #[.int .u8 17] w (StuE w) := by
  obtain ⟨met, w2, h1, h2, h3⟩ := bounds_off (α := Nat) w .i64 1 0 .sliceAcap
  go_enter Tryd.func71, Tryd.ntmps71
  go_wp2
  exact ⟨rfl, _, rfl, h2, h3⟩
theorem stu21 (w : World) : Calls Tryd.prog 71 #[.int .u8 21] w (StuE w) := by
  obtain ⟨met, w2, h1, h2, h3⟩ := ar21 w
  go_enter Tryd.func71, Tryd.ntmps71
  go_wp2
  exact ⟨rfl, _, rfl, h2, h3⟩
theorem stu24 (w : World) : Calls Tryd.prog 71 #[.int .u8 24] w (StuE w) := by
  obtain ⟨met, w2, h1, h2, h3⟩ := mk24 w
  go_enter Tryd.func71, Tryd.ntmps71
  go_wp2
  exact ⟨rfl, _, rfl, h2, h3⟩
theorem mc22 (w : World) : (Instr.makeChan 175 (.int .i64 1)).run Tryd.prog w = .ok (.chan (some w.heap.size)) (w.alloc (.chan 1 #[] false 0 0 false)) := by kernel_rfl
theorem close_eq (r : Nat) : Builtin.close_ #[175] 0 #[.chan (some r)] = (do
    let .chan room buf closed sent received timer ← getObj r | stuck "close: no channel in this block"
    if closed then runtimePanic (.plain "close of closed channel")
    setObj r (.chan room buf true sent received timer)
    pure (.tuple #[])) := rfl
theorem cl1 (w : World) (r : Nat) (hr : w.heap[r]? = some (.chan 1 #[] false 0 0 false)) : (Builtin.close_ #[175] 0 #[.chan (some r)]).run Tryd.prog w = .ok (.tuple #[]) { w with heap := w.heap.setIfInBounds r (.chan 1 #[] true 0 0 false) } := by
  rw [close_eq]
  simp [getObj, setObj, hr, Sem.run, bind, Sem.bind, pure]
theorem cl2 (w : World) (r : Nat) (hr : w.heap[r]? = some (.chan 1 #[] true 0 0 false)) : (Builtin.close_ #[175] 0 #[.chan (some r)]).run Tryd.prog w = .halt (.panic (.iface Tryd.prog.rt.plainError (strVal "close of closed channel"))) w := by
  rw [close_eq]
  simp [getObj, setObj, hr, runtimePanic, goPanic, Sem.run, bind, Sem.bind, pure, program]
end Go.Proofs.YtifldnkcheobhaaDoor
