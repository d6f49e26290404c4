/- Contracts: Spare and Kept: a copy with marked room behind it. -/
import Derived.Test.YtnkecjjfbllgdaaIdent
namespace Go.Proofs.Ytnkecjjfbllgdaa
open Go.RowKit

theorem Arg.take {w : World} {B n c : Nat} {A : Option Addr} {zs : List Nat} (h : Arg w B A n c zs) {k : Nat} (hk : k ≤ n) : Arg w B A k c (zs.take k) := by
  have hl := h.len
  refine ⟨by simp; omega, by have := h.le; omega, h.cap, fun d hd => h.byte d (List.mem_of_mem_take hd), fun he => ?_, fun hn => ?_⟩
  · have := h.none_ he; omega
  · obtain ⟨b, off, e, hb, hc⟩ := h.at_ (by omega)
    refine ⟨b, off, e, hb, fun j hj => ?_⟩
    rw [hc j (by omega)]
    simp [List.getD_eq_getElem?_getD, hj]

abbrev marks : List Nat := [165, 90, 165]
abbrev blkM : Obj := .cells #[.int .u8 165, .int .u8 90, .int .u8 165] 5

theorem lit_marks (w : World) : Arg (w.alloc blkM) (w.heap.size + 1) (some ⟨w.heap.size, 0, none⟩) 3 3 marks := by
  have h := (OwnB.lit w marks (by simp [marks]) (n := 3) rfl (by unfold maxLen; omega)).arg
  rw [World.size_alloc] at h
  exact h

theorem getD_mark (zs : List Nat) (n k : Nat) (hl : zs.length = n) : (zs ++ marks).getD (n + k) 0 = marks.getD k 0 := by
  simp [List.getD_eq_getElem?_getD, List.getElem?_append, hl, show ¬ n + k < n by omega]

end Go.Proofs.Ytnkecjjfbllgdaa
