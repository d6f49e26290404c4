/- BookChecks: the walk. -/
import Derived.Test.YtnkecjjfbllgdaaBkW
import Derived.Test.YtnkecjjfbllgdaaBkTop
namespace Go.Proofs.Ytnkecjjfbllgdaa
open Go.RowKit
set_option maxRecDepth 100000
set_option linter.unusedVariables false

set_option maxHeartbeats 6400000 in
theorem bookChecks_walk (A : Option Addr) (n c : Nat) (l : List PolM) (op : Nat) (q : Int) (KA : Option Addr) (kn kc : Nat) (N : Int) (w : World) (h : ArgC w w.heap.size 4 A n c (FP l)) (hc : c ≤ 4398046510976) :
    Calls Try.prog 3 #[.slice A n c, .agg #[.int .u8 (op : Nat), .int .i64 q, .slice KA kn kc, .int .i64 N]] w (ValEnd w (.bool true)) := by
  have hn : n ≤ 8796093022000 := by have := h.le; omega
  have HA := Lib.hid (fun W (hW : Below w.heap.size w W) => (show Calls Try.prog 10 #[] W fun e w' => e = .returned (.bool true) ∧ Below W.heap.size W w' from awake16_any W))
  have HP := Lib.hid (fun W (hW : Below w.heap.size w W) => (show Calls Try.prog 11 #[.slice A n c] W fun e w' => e = .returned (.int .i64 (polsV l)) ∧ Below W.heap.size W w' from pols_any W w.heap.size A n c l (h.below hW) hW.size hn))
  have HR := Lib.hid (fun W (hW : Below w.heap.size w W) => (show Calls Try.prog 12 #[.slice A n c] W fun e w' => e = .returned (.int .i64 (polsV l)) ∧ Below W.heap.size W w' from rpols_any W w.heap.size A n c l (h.below hW) hW.size hn))
  have HC := Lib.hid (fun W (hW : Below w.heap.size w W) => (show Calls Try.prog 13 #[.slice A n c, .agg #[.int .u8 (op : Nat), .int .i64 q, .slice KA kn kc, .int .i64 N]] W fun e w' => e = .returned (.int .i64 (checkM l op q kn N)) ∧ Below W.heap.size W w' from bCheck_any W w.heap.size A KA n c kn kc op l q N (h.below hW) hW.size hn))
  have HD := Lib.hid (fun W (hW : Below w.heap.size w W) => (show Calls Try.prog 14 #[.slice A n c, .agg #[.int .u8 (op : Nat), .int .i64 q, .slice KA kn kc, .int .i64 N]] W fun e w' => e = .returned (.int .i64 (checkM l op q kn N)) ∧ Below W.heap.size W w' from rCheck_any W w.heap.size A KA n c kn kc op l q N (h.below hW) hW.size hn))
  clear h hn hc
  generalize polsV l = x at HP HR
  generalize checkM l op q kn N = y at HC HD
  have b0 := BlkL.new w [.int .u8 (op : Nat), .int .i64 q, .slice KA kn kc, .int .i64 N] 25
  have hb0 := below_a1 w (.cells #[.int .u8 (op : Nat), .int .i64 q, .slice KA kn kc, .int .i64 N] 25)
  go_enter Try.func3, Try.ntmps3
  go_wp2_with fail
  simp only [List.toArray] at b0 hb0
  generalize World.alloc _ _ = W0 at b0 hb0 ⊢
  have a0 := b0.cell 0 _ rfl
  have a1 := b0.cell 1 _ rfl
  have a2 := b0.cell 2 _ rfl
  have a3 := b0.cell 3 _ rfl
  have K0 := Lib.hid b0
  have HB := Lib.hid hb0.drew
  have K0 := Lib.hid b0.drew
  clear b0 hb0
  go_region_held3 (fun w' => w'.cell? ⟨w.heap.size, 0, none⟩ = some (.int .u8 (op : Nat)) ∧ w'.cell? ⟨w.heap.size, 1, none⟩ = some (.int .i64 q) ∧ w'.cell? ⟨w.heap.size, 2, none⟩ = some (.slice KA kn kc) ∧ w'.cell? ⟨w.heap.size, 3, none⟩ = some (.int .i64 N)) (refine ⟨?_, ?_, ?_, ?_⟩ <;> (first | with_reducible assumption | (with_reducible refine keepD ?_; with_reducible assumption)))
    ((first
      | (with_reducible refine (HA.out _ HB.out).mono ?_; rintro e w2 ⟨rfl, hb⟩; have k0 := K0.out.below hb; have HB2 := Lib.hid (HB.out.trans (hb.mono HB.out.size)); clear hb HB K0 a0 a1 a2 a3; have HB := HB2; have a0 := k0.cell 0 _ rfl; have a1 := k0.cell 1 _ rfl; have a2 := k0.cell 2 _ rfl; have a3 := k0.cell 3 _ rfl; have K0 := Lib.hid k0; clear k0 HB2)
      | (with_reducible refine (HP.out _ HB.out).mono ?_; rintro e w2 ⟨rfl, hb⟩; have k0 := K0.out.below hb; have HB2 := Lib.hid (HB.out.trans (hb.mono HB.out.size)); clear hb HB K0 a0 a1 a2 a3; have HB := HB2; have a0 := k0.cell 0 _ rfl; have a1 := k0.cell 1 _ rfl; have a2 := k0.cell 2 _ rfl; have a3 := k0.cell 3 _ rfl; have K0 := Lib.hid k0; clear k0 HB2)
      | (with_reducible refine (HR.out _ HB.out).mono ?_; rintro e w2 ⟨rfl, hb⟩; have k0 := K0.out.below hb; have HB2 := Lib.hid (HB.out.trans (hb.mono HB.out.size)); clear hb HB K0 a0 a1 a2 a3; have HB := HB2; have a0 := k0.cell 0 _ rfl; have a1 := k0.cell 1 _ rfl; have a2 := k0.cell 2 _ rfl; have a3 := k0.cell 3 _ rfl; have K0 := Lib.hid k0; clear k0 HB2)
      | (with_reducible refine (HC.out _ HB.out).mono ?_; rintro e w2 ⟨rfl, hb⟩; have k0 := K0.out.below hb; have HB2 := Lib.hid (HB.out.trans (hb.mono HB.out.size)); clear hb HB K0 a0 a1 a2 a3; have HB := HB2; have a0 := k0.cell 0 _ rfl; have a1 := k0.cell 1 _ rfl; have a2 := k0.cell 2 _ rfl; have a3 := k0.cell 3 _ rfl; have K0 := Lib.hid k0; clear k0 HB2)
      | (with_reducible refine (HD.out _ HB.out).mono ?_; rintro e w2 ⟨rfl, hb⟩; have k0 := K0.out.below hb; have HB2 := Lib.hid (HB.out.trans (hb.mono HB.out.size)); clear hb HB K0 a0 a1 a2 a3; have HB := HB2; have a0 := k0.cell 0 _ rfl; have a1 := k0.cell 1 _ rfl; have a2 := k0.cell 2 _ rfl; have a3 := k0.cell 3 _ rfl; have K0 := Lib.hid k0; clear k0 HB2)))
  all_goals
    go_wp2
    go_ret
    exact ⟨ret_bool (by simp), HB.out⟩
end Go.Proofs.Ytnkecjjfbllgdaa
