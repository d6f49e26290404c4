/- Contract of the laws on perm: kept. -/
import Derived.Test.YthigbhhhhebjeaaPermI
namespace Go.Proofs.Ythigbhhhhebjeaa
open Go.RowKit
set_option maxRecDepth 100000

set_option maxHeartbeats 3200000 in
theorem kept6_any (w : World) (B B' : Nat) (A A' : Option Addr) (n c c' : Nat) (xs : List Int) (p : Int) (h : ArgI w B A' (n + 2) c' (xs ++ [77, 78])) (h' : ArgI w B' A n c xs) (hB : B ≤ w.heap.size) (hB' : B' ≤ w.heap.size) :
    Calls Try.prog 39 #[.slice A' (n + 2) c', .agg #[.int .i64 p, .slice A n c]] w (ValEnd w (.bool true)) := by
  have hl := h'.len
  have hle := h.le
  have hcap := h.cap
  unfold maxLen at hcap
  have hle' := h'.le
  have hcap' := h'.cap
  unfold maxLen at hcap'
  have hb0 : Below w.heap.size w (w.alloc (.cells #[.int .i64 p, .slice A n c] 73)) := (Below.refl _ w).alloc (Nat.le_refl _) _
  have HF := Lib.hid ((h.more hB).below hb0)
  have HG := Lib.hid ((h'.more hB').below hb0)
  have HB0 := Lib.hid hb0
  obtain ⟨b, off, rfl, hbl, hc⟩ := HF.out.at_ (by omega)
  have HL := Lib.hid (BlkL.new w [.int .i64 p, .slice A n c] 73)
  have HC7 := Lib.hid (hc n (by omega))
  have HC8 := Lib.hid (hc (n + 1) (by omega))
  have c7 := hc n (by omega)
  have c8 := hc (n + 1) (by omega)
  have g7 : (xs ++ [(77 : Int), 78]).getD n 0 = 77 := by rw [← hl]; simp [List.getD_eq_getElem?_getD]
  have g8 : (xs ++ [(77 : Int), 78]).getD (n + 1) 0 = 78 := by rw [← hl]; simp [List.getD_eq_getElem?_getD]
  rw [g7] at c7
  rw [g8] at c8
  have ht := HF.out.to_ (k := n) (by omega)
  have g9 : (xs ++ [(77 : Int), 78]).take n = xs := by rw [← hl]; simp
  rw [g9] at ht
  have HT := Lib.hid ht
  have k1 : n ≤ c' := by omega
  have k2 : (n : Int) ≤ (c' : Int) := by omega
  have k3 : (0 : Int) ≤ (n : Int) := by omega
  have k4 : n < n + 2 := by omega
  have k5 : n + 1 < n + 2 := by omega
  have k6 : (n : Int) < (n : Int) + 2 := by omega
  have k7 : (n : Int) + 1 < (n : Int) + 2 := by omega
  have k8 : (0 : Int) ≤ (n : Int) + 1 := by omega
  have k9 : ((n : Int) + 1).toNat = n + 1 := by omega
  have k10 : ¬ n + 2 ≤ n := by omega
  have k11 : ¬ n + 2 ≤ n + 1 := by omega
  have e1 : IntKind.i64.wrap ((n : Int) + 1) = ((n + 1 : Nat) : Int) := by rw [show (n : Int) + 1 = ((n + 1 : Nat) : Int) by omega]; exact IntWalk.i64_in _ (by omega)
  rw [g7] at HC7
  rw [g8] at HC8
  clear hc ht h h' hb0 hl g7 g8 g9
  go_enter Try.func39, Try.ntmps39
  go_wp2_with fail
  go_region_held3 (fun w' => w'.cell? ⟨w.heap.size, 0, none⟩ = some (.int .i64 p) ∧ w'.cell? ⟨w.heap.size, 1, none⟩ = some (.slice A n c) ∧ w'.cell? ⟨b, off + n, none⟩ = some (.int .i64 77) ∧ w'.cell? ⟨b, off + (n + 1), none⟩ = some (.int .i64 78)) (go_keep)
    (first
      | ((with_reducible refine (sameInts_yes _ _ _ _ _ _ _ _ _ xs xs rfl (HT.out.below (Below.refl _ _).drew) (HG.out.below (Below.refl _ _).drew)).mono ?_); rintro e w2 ⟨rfl, hb⟩; have HB2 := Lib.hid (HB0.out.drew.trans (hb.mono HB0.out.drew.size)); have bl := HL.out.drew.below hb; have d0 := bl.cell 0 _ rfl; have d1 := bl.cell 1 _ rfl; have d7 := (hb.cell (p := ⟨b, off + n, none⟩) (by simp; omega)).trans HC7.out; have d8 := (hb.cell (p := ⟨b, off + (n + 1), none⟩) (by simp; omega)).trans HC8.out; clear hb bl))
  all_goals
    go_wp2
    go_ret
    exact ⟨rfl, HB2.out⟩
end Go.Proofs.Ythigbhhhhebjeaa
