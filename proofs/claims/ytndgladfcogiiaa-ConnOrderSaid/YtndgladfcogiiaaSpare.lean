/- Contracts: Spare and Kept: a copy with marked room behind it. -/
import Derived.Test.YtndgladfcogiiaaIdent
namespace Go.Proofs.Ytndgladfcogiiaa
open Go.RowKit

theorem Arg.take {w : World} {B n c : Nat} {A : Option Addr} {zs : List Nat} (h : Arg w B A n c zs) {k : Nat} (hk : k ≤ n) : Arg w B A k c (zs.take k) := by
  have hl := h.len
  refine ⟨by simp; omega, by have := h.le; omega, h.cap, fun d hd => h.byte d (List.mem_of_mem_take hd), fun he => ?_, fun hn => ?_⟩
  · have := h.none_ he; omega
  · obtain ⟨b, off, e, hb, hc⟩ := h.at_ (by omega)
    refine ⟨b, off, e, hb, fun j hj => ?_⟩
    rw [hc j (by omega)]
    simp [List.getD_eq_getElem?_getD, hj]

abbrev marks : List Nat := [165, 90, 165]
abbrev blkM : Obj := .cells #[.int .u8 165, .int .u8 90, .int .u8 165] 5

theorem lit_marks (w : World) : Arg (w.alloc blkM) (w.heap.size + 1) (some ⟨w.heap.size, 0, none⟩) 3 3 marks := by
  have h := (OwnB.lit w marks (by simp [marks]) (n := 3) rfl (by unfold maxLen; omega)).arg
  rw [World.size_alloc] at h
  exact h

set_option maxHeartbeats 800000 in
theorem spare_any (w : World) (A : Option Addr) (n c : Nat) (zs : List Nat) (h : Arg w w.heap.size A n c zs) (hn : n ≤ 140737488355325) :
    Calls Try.prog 20 #[.slice A n c] w fun e w' => ∃ F d, e = .returned (.tuple #[.slice F n d, .slice F (n + 3) d]) ∧ OwnB w' w.heap.size F (n + 3) d (zs ++ marks) ∧ Below w.heap.size w w' := by
  have hb0 : Below w.heap.size w (w.alloc (.cells #[] 5)) := (Below.refl _ w).alloc (Nat.le_refl _) _
  have HO := Lib.hid (OwnB.lit w [] (by simp) (n := 0) rfl (by unfold maxLen; omega))
  have HB0 := Lib.hid hb0
  have G1 := Lib.hid (h.below hb0)
  clear hb0 h
  go_enter Try.func20, Try.ntmps20
  go_wp2_with (refine wpList_append_bytes rfl (.tmp 5) (.tmp 6) rfl w.heap.size (some ⟨w.heap.size, 0, none⟩) 0 0 [] rfl HO.out w.heap.size A n c zs rfl G1.out (by omega) (by simp) ?_)
  intro B1 d1 w1 ho1 hb1
  have HO1 : Hid (OwnB w1 w.heap.size B1 n d1 zs) := ho1
  have hbb1 := HB0.out.trans hb1
  have hs1 := hbb1.size
  have HB1 := Lib.hid (hbb1.alloc hs1 blkM)
  have HO2 := Lib.hid (HO1.out.below ((Below.refl _ w1).alloc (Nat.le_refl _) blkM))
  have HM := Lib.hid (lit_marks w1)
  clear ho1 hb1 hbb1 HO HB0 G1
  go_wp2_with (refine wpList_append_bytes rfl (.tmp 7) (.tmp 8) rfl w.heap.size B1 n d1 zs rfl HO2.out (w1.heap.size + 1) (some ⟨w1.heap.size, 0, none⟩) 3 3 marks rfl HM.out (by omega) (by simp; omega) ?_)
  intro B2 d2 w2 ho2 hb2
  have hle := ho2.arg.le
  have HO3 := Lib.hid ho2
  have HB2 := Lib.hid (HB1.out.trans hb2)
  clear ho2 hb2
  go_wp2
  go_ret2
  exact ⟨B2, d2, rfl, HO3.out, HB2.out⟩

theorem getD_mark (zs : List Nat) (n k : Nat) (hl : zs.length = n) : (zs ++ marks).getD (n + k) 0 = marks.getD k 0 := by
  simp [List.getD_eq_getElem?_getD, List.getElem?_append, hl, show ¬ n + k < n by omega]

set_option maxRecDepth 100000 in
set_option maxHeartbeats 800000 in
theorem kept_any (w : World) (B B' : Nat) (F A : Option Addr) (n c d : Nat) (zs : List Nat) (hF : Arg w B F (n + 3) d (zs ++ marks)) (h : Arg w B' A n c zs) :
    Calls Try.prog 24 #[.slice F (n + 3) d, .slice A n c] w (SameEnd w true) := by
  have hl := h.len
  have hle := hF.le
  have hcap := hF.cap
  unfold maxLen at hcap
  have htk := hF.take (k := n) (by omega)
  rw [← hl, List.take_left, hl] at htk
  have HT := Lib.hid htk
  have H := Lib.hid h
  obtain ⟨b, off, rfl, _, hc⟩ := hF.at_ (by omega)
  have h0 := hc n (by omega)
  have h1 := hc (n + 1) (by omega)
  have h2 := hc (n + 2) (by omega)
  rw [show (zs ++ marks).getD n 0 = 165 from getD_mark zs n 0 hl] at h0
  rw [getD_mark zs n 1 hl] at h1
  rw [getD_mark zs n 2 hl] at h2
  have g1 : w.cell? ⟨b, off + (n + 1), none⟩ = some (.int .u8 90) := h1
  have g2 : w.cell? ⟨b, off + (n + 2), none⟩ = some (.int .u8 165) := h2
  have g0 : w.cell? ⟨b, off + n, none⟩ = some (.int .u8 165) := h0
  clear h0 h1 h2 hc hF h hl htk
  have q1 : ((n : Int) + 3 == (n : Int) + 3) = true := by simp
  go_enter Try.func24, Try.ntmps24
  go_wp2_with fail
  refine (same_any _ B B' _ _ _ _ _ _ zs zs true (by simp) HT.out H.out).mono ?_
  rintro e w1 ⟨rfl, t, rfl⟩
  go_wp2
  go_ret
  exact ⟨rfl, t, rfl⟩
end Go.Proofs.Ytndgladfcogiiaa
