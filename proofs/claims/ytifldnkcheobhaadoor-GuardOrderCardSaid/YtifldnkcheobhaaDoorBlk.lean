/- A block of a call's own, known cell by cell: behind calls, behind stores. -/
import Derived.Test.YtifldnkcheobhaaDoorMem
namespace Go.Proofs.YtifldnkcheobhaaDoor
open Go.RowKit
set_option maxRecDepth 100000

structure BlkL (w : World) (b : Nat) (xs : List Value) : Prop where
  lt : b < w.heap.size
  cell : ∀ i v, xs[i]? = some v → w.cell? ⟨b, i, none⟩ = some v
  froz : ∀ i, i < xs.length → w.frozen? ⟨b, i, none⟩ = false

section
variable {w w' : World} {b : Nat} {xs : List Value}
theorem BlkL.new (w : World) (xs : List Value) (t : TypeId) : BlkL (w.alloc (.cells xs.toArray t)) w.heap.size xs :=
  ⟨by simp, fun i v h => by simp [h], fun i h => by simp⟩
theorem BlkL.below (h : BlkL w b xs) (hb : Below w.heap.size w w') : BlkL w' b xs :=
  ⟨Nat.lt_of_lt_of_le h.lt hb.size, fun i v hv => (hb.cell (p := ⟨b, i, none⟩) h.lt).trans (h.cell i v hv), fun i hi => (hb.frozen (p := ⟨b, i, none⟩) h.lt).trans (h.froz i hi)⟩
theorem BlkL.alloc (h : BlkL w b xs) (o : Obj) : BlkL (w.alloc o) b xs := h.below ((Below.refl _ _).alloc (Nat.le_refl _) _)
theorem BlkL.drew (h : BlkL w b xs) : BlkL w.drew b xs := h.below (Below.refl _ _).drew
theorem BlkL.drewN (h : BlkL w b xs) (k : Nat) : BlkL (w.drewN k) b xs := ⟨h.lt, h.cell, h.froz⟩
theorem BlkL.set (h : BlkL w b xs) (i : Nat) (v : Value) (hi : i < xs.length) : BlkL (w.setCell ⟨b, i, none⟩ v) b (xs.set i v) := by
  refine ⟨by simpa using h.lt, fun j u hj => ?_, fun j hj => by simpa using h.froz j (by simpa using hj)⟩
  have hx := h.cell i xs[i] (by simp [hi])
  by_cases e : i = j
  · subst e
    rw [World.cell?_setCell_same _ _ _ hx]
    simpa [hi] using hj
  · rw [List.getElem?_set_ne e] at hj
    exact (World.cell?_setCell_other _ _ _ _ (by simp)).trans (h.cell j u hj)
theorem BlkL.other (h : BlkL w b xs) (b' i : Nat) (v : Value) (hne : b' ≠ b) : BlkL (w.setCell ⟨b', i, none⟩ v) b xs :=
  ⟨by simpa using h.lt, fun j u hj => (World.cell?_setCell_other _ _ _ _ (by simp)).trans (h.cell j u hj), fun j hj => by simpa using h.froz j hj⟩
theorem BlkL.put4 {x0 x1 x2 x3 : Value} (h : BlkL w b [x0, x1, x2, x3]) (v0 v1 v2 v3 : Value) :
    BlkL ((((w.setCell ⟨b, 0, none⟩ v0).setCell ⟨b, 1, none⟩ v1).setCell ⟨b, 2, none⟩ v2).setCell ⟨b, 3, none⟩ v3) b [v0, v1, v2, v3] := by
  have := (((h.set 0 v0 (by simp)).set 1 v1 (by simp)).set 2 v2 (by simp)).set 3 v3 (by simp)
  simpa only [List.set_cons_zero, List.set_cons_succ] using this
theorem BlkL.put2 {x0 x1 : Value} (h : BlkL w b [x0, x1]) (v0 v1 : Value) : BlkL ((w.setCell ⟨b, 0, none⟩ v0).setCell ⟨b, 1, none⟩ v1) b [v0, v1] := by
  have := (h.set 0 v0 (by simp)).set 1 v1 (by simp)
  simpa only [List.set_cons_zero, List.set_cons_succ] using this
theorem below_put4 {B : Nat} {a w : World} (h : Below B a w) {b : Nat} (hb : B ≤ b) (v0 v1 v2 v3 : Value) :
    Below B a ((((w.setCell ⟨b, 0, none⟩ v0).setCell ⟨b, 1, none⟩ v1).setCell ⟨b, 2, none⟩ v2).setCell ⟨b, 3, none⟩ v3) :=
  (((h.setCell (p := ⟨b, 0, none⟩) hb v0).setCell (p := ⟨b, 1, none⟩) hb v1).setCell (p := ⟨b, 2, none⟩) hb v2).setCell (p := ⟨b, 3, none⟩) hb v3
theorem below_put2 {B : Nat} {a w : World} (h : Below B a w) {b : Nat} (hb : B ≤ b) (v0 v1 : Value) : Below B a ((w.setCell ⟨b, 0, none⟩ v0).setCell ⟨b, 1, none⟩ v1) :=
  (h.setCell (p := ⟨b, 0, none⟩) hb v0).setCell (p := ⟨b, 1, none⟩) hb v1
end
end Go.Proofs.YtifldnkcheobhaaDoor
