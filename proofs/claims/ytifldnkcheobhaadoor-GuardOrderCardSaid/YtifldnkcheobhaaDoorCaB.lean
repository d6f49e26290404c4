/- Contract: a mark is made. -/
import Derived.Test.YtifldnkcheobhaaDoorCaA
namespace Go.Proofs.YtifldnkcheobhaaDoor
open Go.RowKit
set_option maxRecDepth 100000
set_option linter.unusedVariables false
set_option maxHeartbeats 4000000

/-- What a mark leaves. -/
def MarkE (w : World) (B bm : Nat) (Pa : Value) (A : Option Addr) (s : CaS) (k : Nat) (e : PanV) (w' : World) : Prop :=
  ∃ A' c', CaW w' B bm Pa A' c' (s.mark k e) ∧ Off (bm :: bkV A) w w' ∧ ∀ y ∈ bkV A', y ∈ bkV A ∨ w.heap.size ≤ y
theorem mark_any (w : World) (B bm c : Nat) (Pa : Value) (A : Option Addr) (s : CaS) (k : Nat) (e : PanV) (h : CaW w B bm Pa A c s) (hl : s.marks.length + 1 + s.fuel ≤ 8192) :
    Calls Tryd.prog 47 #[.pointer (some ⟨bm, 0, none⟩), .int .u8 (k : Int), .agg #[.int .u8 (e.1 : Int), .int .i64 e.2]] w fun r w' => r = .returned (.tuple #[]) ∧ MarkE w B bm Pa A s k e w' := by
  obtain ⟨i0, hi, hz0, hz1, hz2⟩ := info_partsMk
  obtain ⟨e1, e2⟩ := e
  have W0 := Lib.hid h
  have bl1 := (Below.refl w.heap.size w).alloc (Nat.le_refl _) (.cells #[.int .u8 (e1 : Int), .int .i64 e2] 26)
  have bl2 := bl1.alloc (by simp) (.cells #[.int .u8 (k : Int), .int .u8 (e1 : Int), .int .i64 e2] 36)
  have h2 : CaW (((w.alloc (.cells #[.int .u8 (e1 : Int), .int .i64 e2] 26)).alloc (.cells #[.int .u8 (k : Int), .int .u8 (e1 : Int), .int .i64 e2] 36)).drew) B bm Pa A c s := h.below bl2.drew
  have H2 := Lib.hid h2
  have HB2 := Lib.hid bl2.drew
  have HSRC : Hid (SrcS (((w.alloc (.cells #[.int .u8 (e1 : Int), .int .i64 e2] 26)).alloc (.cells #[.int .u8 (k : Int), .int .u8 (e1 : Int), .int .i64 e2] 36)).drew) 3 (some ⟨w.heap.size + 1, 0, none⟩) 1 (MkV (k, e1, e2))) := Lib.hid (by
    have hb := (BlkL.new (w.alloc (.cells #[.int .u8 (e1 : Int), .int .i64 e2] 26)) [.int .u8 (k : Int), .int .u8 (e1 : Int), .int .i64 e2] 36).drew
    rw [show (w.alloc (.cells #[.int .u8 (e1 : Int), .int .i64 e2] 26)).heap.size = w.heap.size + 1 by simp] at hb
    exact BlkL.srcS hb (MkV_one (k, e1, e2)) 1 rfl)
  have c2 := h.blk.cell 2 _ rfl
  have f2 := h.blk.froz 2 (by simp)
  have lt := h.blk.lt
  have hnn : (s.marks.length + 1) * 16 ≤ 140737488355328 := by omega
  have hbb : B ≤ (((w.alloc (.cells #[.int .u8 (e1 : Int), .int .i64 e2] 26)).alloc (.cells #[.int .u8 (k : Int), .int .u8 (e1 : Int), .int .i64 e2] 36)).drew).heap.size := by have := h.hB; simp; omega
  have HL := Lib.hid hl
  clear h h2 bl1 bl2 hl
  go_enter Tryd.func47, Tryd.ntmps47
  go_wp2_with fail
  go_region_law (refine step_append_s Tryd.underlying29 hi hz0 hz1 hz2 rfl rfl (.tmp 10) (.tmp 17) rfl rfl H2.out.own (some ⟨w.heap.size + 1, 0, none⟩) 1 1 _ rfl HSRC.out (fun e => by cases e) (by omega) hnn hbb ?_; intro A3 c3 w5 ho5 hf5 hbk5; have k5 := H2.out.blk.off hf5 H2.out.ap; have d2 := k5.cell 2 _ rfl; have df2 := k5.froz 2 (by simp); have dl := k5.lt)
  all_goals
    have HM : Hid (MarkE w B bm Pa A s k (e1, e2) (w5.setCell ⟨bm, 2, none⟩ (.slice A3 (s.marks.length + 1) c3))) := Lib.hid (by
      refine ⟨A3, c3, H2.out.app (e := (e1, e2)) ho5 hf5 (fun y hy => (hbk5 y hy).imp id (fun q => by have := q.1; omega)) HL.out, ?_, fun y hy => (hbk5 y hy).imp id (fun q => by have := q.1; simp only [World.size_drew, World.size_alloc] at this; omega)⟩
      exact (((Off.of_below HB2.out).mono (S' := bm :: bkV A) (S := []) (by simp)).trans (hf5.mono (by simp; intro x hx; exact Or.inr hx))).setCell (p := ⟨bm, 2, none⟩) (by simp) _)
    clear ho5 hf5 hbk5
    go_wp2
    go_end0
    exact ⟨rfl, HM.out⟩
end Go.Proofs.YtifldnkcheobhaaDoor
