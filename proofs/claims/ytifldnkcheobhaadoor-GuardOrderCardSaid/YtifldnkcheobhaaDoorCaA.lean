/- A machine and a run of small programs in memory: the calls that mark, end and recover. -/
import Derived.Test.YtifldnkcheobhaaDoorCnA
import Derived.Test.YtifldnkcheobhaaDoorCaM
import Derived.Laws.EntriesVeiled
import Derived.BigQuiet
import Derived.Deep.QuietTactic
namespace Go.Proofs.YtifldnkcheobhaaDoor
open Go.RowKit
set_option maxRecDepth 100000
set_option linter.unusedVariables false

def MkV (m : MarkV) : List Value := [.int .u8 (m.1 : Int), .int .u8 (m.2.1 : Int), .int .i64 m.2.2]
def FMk (l : List MarkV) : List Value := l.flatMap MkV
theorem FMk_append (a b : List MarkV) : FMk (a ++ b) = FMk a ++ FMk b := List.flatMap_append
theorem FMk_one (m : MarkV) : FMk [m] = MkV m := by simp [FMk]
theorem MkV_one (m : MarkV) : ∀ u ∈ MkV m, u.oneCell' = true := by
  intro u hu
  simp only [MkV, List.mem_cons, List.not_mem_nil, or_false] at hu
  rcases hu with rfl | rfl | rfl <;> rfl
theorem FMk_oneC (l : List MarkV) : ∀ u ∈ FMk l, u.oneCell' = true := by
  intro u hu
  obtain ⟨m, _, h⟩ := List.mem_flatMap.1 hu
  exact MkV_one m u h
theorem mark_info : (Tryd.prog.info? 36).map (fun i => (i.zero, i.size, i.bytes)) = some (some (.agg #[.int .u8 0, .int .u8 0, .int .i64 0]), 3, 16) := by kernel_rfl
theorem info_partsMk : ∃ i0, Tryd.prog.info? 36 = some i0 ∧ i0.zero = some (.agg #[.int .u8 0, .int .u8 0, .int .i64 0]) ∧ i0.size = 3 ∧ i0.bytes = 16 := by
  have h := mark_info
  cases hh : Tryd.prog.info? 36 with
  | none => rw [hh] at h; cases h
  | some i0 =>
    rw [hh] at h
    simp only [Option.map_some, Option.some.injEq, Prod.mk.injEq] at h
    exact ⟨i0, rfl, h.1, h.2.1, h.2.2⟩

/-- A machine in memory. -/
structure CaW (w : World) (B bm : Nat) (Pa : Value) (A : Option Addr) (c : Nat) (s : CaS) : Prop where
  blk : BlkL w bm [Pa, .int .i64 (s.fuel : Int), .slice A s.marks.length c]
  own : OwnS w B 3 A s.marks.length c (FMk s.marks)
  ap : bm ∉ bkV A
  hB : B ≤ w.heap.size
  lim : s.marks.length + s.fuel ≤ 8192
section
variable {w w' : World} {B bm c : Nat} {Pa : Value} {A : Option Addr} {s : CaS} {S : List Nat}
theorem CaW.off (h : CaW w B bm Pa A c s) (hf : Off S w w') (h1 : bm ∉ S) (h2 : ∀ y ∈ bkV A, y ∉ S) : CaW w' B bm Pa A c s :=
  ⟨h.blk.off hf h1, h.own.off hf h2, h.ap, Nat.le_trans h.hB hf.size, h.lim⟩
theorem CaW.below (h : CaW w B bm Pa A c s) (hb : Below w.heap.size w w') : CaW w' B bm Pa A c s := h.off (S := []) (Off.of_below hb) (by simp) (by simp)
/-- A mark more. -/
theorem CaW.app {A' : Option Addr} {c' : Nat} {k : Nat} {e : PanV} (h : CaW w B bm Pa A c s) (ho : OwnS w' B 3 A' (s.marks.length + 1) c' (FMk s.marks ++ MkV (k, e.1, e.2))) (hf : Off (bkV A) w w')
    (hb : ∀ y ∈ bkV A', y ∈ bkV A ∨ w.heap.size ≤ y) (hl : s.marks.length + 1 + s.fuel ≤ 8192) :
    CaW (w'.setCell ⟨bm, 2, none⟩ (.slice A' (s.marks.length + 1) c')) B bm Pa A' c' (s.mark k e) := by
  have hbm : bm ∉ bkV A' := fun hh => (hb bm hh).elim h.ap (fun q => by have := h.blk.lt; omega)
  have hl' : (s.mark k e).marks.length = s.marks.length + 1 := by simp [CaS.mark]
  refine ⟨?_, ?_, hbm, ?_, ?_⟩
  · rw [hl']
    exact (h.blk.off hf h.ap).set 2 _ (by simp)
  · rw [hl']
    have : FMk (s.mark k e).marks = FMk s.marks ++ MkV (k, e.1, e.2) := by simp [CaS.mark, FMk_append, FMk_one]
    rw [this]
    exact ho.off (S := [bm]) ((Off.refl [bm] w').setCell (p := ⟨bm, 2, none⟩) (by simp) _) (fun y hy => by simp; intro hh; subst hh; exact hbm hy)
  · have := h.hB; have := hf.size; simp [World.setCell]; omega
  · rw [hl']; show s.marks.length + 1 + s.fuel ≤ 8192; exact hl
end
/-- (*run).end of something. -/
theorem end_some (w : World) (rb : Nat) (by0 old : Value) (T : TypeId) (x : Value) (h : BlkL w rb [by0, old]) :
    Calls Tryd.prog 46 #[.pointer (some ⟨rb, 0, none⟩), .iface T x] w fun e w' => e = .returned (.tuple #[]) ∧ w' = w.setCell ⟨rb, 1, none⟩ (.iface T x) := by
  have h1 := h.cell 1 _ rfl
  have f1 := h.froz 1 (by simp)
  have hlt := h.lt
  have hn : ∀ w : World, (binOp BinOp.neq 20 (.iface T x) .nilIface).run Tryd.prog w = .ok (.bool true) w := fun w => by
    kernel_rfl
  clear h
  go_enter Tryd.func46, Tryd.ntmps46
  go_wp2
  go_end0
  exact ⟨rfl, rfl⟩
theorem end_nil (w : World) (rb : Nat) :
    Calls Tryd.prog 46 #[.pointer (some ⟨rb, 0, none⟩), .nilIface] w fun e w' => e = .returned (.tuple #[]) ∧ w = w' := by
  have hn : ∀ w : World, (binOp BinOp.neq 20 .nilIface .nilIface).run Tryd.prog w = .ok (.bool false) w := fun w => by
    kernel_rfl
  go_enter Tryd.func46, Tryd.ntmps46
  go_wp2
  go_end0
  exact ⟨rfl, rfl⟩
/-- (*run).recovered of a run that was called. -/
theorem recovered_none (w : World) (rb : Nat) (v : Value) (h : BlkL w rb [.pointer none, v]) :
    Calls Tryd.prog 50 #[.pointer (some ⟨rb, 0, none⟩)] w fun e w' => e = .returned .nilIface ∧ w = w' := by
  have h0 := h.cell 0 _ rfl
  have hlt := h.lt
  clear h
  go_enter Tryd.func50, Tryd.ntmps50
  go_wp2
  go_ret
  exact ⟨rfl, rfl⟩
theorem recovered_some (w : World) (rb bb : Nat) (v by1 v1 : Value) (h : BlkL w rb [.pointer (some ⟨bb, 0, none⟩), v]) (h1 : BlkL w bb [by1, v1]) :
    Calls Tryd.prog 50 #[.pointer (some ⟨rb, 0, none⟩)] w fun e w' => e = .returned v1 ∧ w' = w.setCell ⟨bb, 1, none⟩ .nilIface := by
  have h0 := h.cell 0 _ rfl
  have hlt := h.lt
  have h2 := h1.cell 1 _ rfl
  have f2 := h1.froz 1 (by simp)
  have hl2 := h1.lt
  clear h h1
  go_enter Tryd.func50, Tryd.ntmps50
  go_wp2
  go_ret
  exact ⟨rfl, rfl⟩
end Go.Proofs.YtifldnkcheobhaaDoor
