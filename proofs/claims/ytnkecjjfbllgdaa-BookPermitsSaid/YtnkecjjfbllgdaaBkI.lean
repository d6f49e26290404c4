/- least of two; Check. -/
import Derived.Test.YtnkecjjfbllgdaaBkH
namespace Go.Proofs.Ytnkecjjfbllgdaa
open Go.RowKit
set_option maxRecDepth 100000
set_option linter.unusedVariables false

def LstInv (x y : Int) (iv fv : Value) : Prop :=
  (iv = .int .i64 0 ∧ fv = .int .i64 0) ∨ (iv = .int .i64 1 ∧ fv = .int .i64 x) ∨ (iv = .int .i64 2 ∧ fv = .int .i64 (leastV x y))
set_option maxHeartbeats 1600000 in
theorem least_any (w : World) (b : Nat) (x y : Int) (c0 : w.cell? ⟨b, 0, none⟩ = some (.int .i64 x)) (c1 : w.cell? ⟨b, 1, none⟩ = some (.int .i64 y)) :
    Calls Try.prog 28 #[.slice (some ⟨b, 0, none⟩) 2 2] w fun e w' => e = .returned (.int .i64 (leastV x y)) ∧ w = w' := by
  go_enter Try.func28, Try.ntmps28
  go_wp2
  go_loop [8, 3] (fun i f => LstInv x y i f) (fun i _ => 2 - (intOf i).toNat)
  case atStart => exact .inl ⟨rfl, rfl⟩
  case round =>
    rcases hrel with ⟨rfl, rfl⟩ | ⟨rfl, rfl⟩ | ⟨rfl, rfl⟩
    · by_cases hx : x = 0
      · subst hx
        go_wp2
        go_round
        case rel => exact .inr (.inl ⟨rfl, rfl⟩)
        case measure => simp [intOf]
      · have q : (x != 0) = true := by simpa using hx
        clear hx
        go_wp2
        go_round
        case rel => exact .inr (.inl ⟨rfl, rfl⟩)
        case measure => simp [intOf]
    · by_cases hy : y = 0
      · subst hy
        have hv : leastV x 0 = x := by unfold leastV; split <;> simp_all
        have HV := Lib.hid hv
        clear hv
        go_wp2
        go_round
        case rel => exact .inr (.inr ⟨rfl, by rw [HV.out]⟩)
        case measure => simp [intOf]
      · have q : (y != 0) = true := by simpa using hy
        by_cases hx : x = 0
        · subst hx
          have HV : Hid (leastV 0 y = y) := Lib.hid (by unfold leastV; rw [if_pos rfl])
          clear hy
          go_wp2
          go_round
          case rel => exact .inr (.inr ⟨rfl, by rw [HV.out]⟩)
          case measure => simp [intOf]
        · have q2 : (x == 0) = false := by simpa using hx
          rcases hlt : decide (y < x) with _ | _
          · have HV : Hid (leastV x y = x) := Lib.hid (by unfold leastV; rw [if_neg hx, if_neg hy, if_neg (of_decide_eq_false hlt)])
            clear hy hx
            go_wp2
            go_round
            case rel => exact .inr (.inr ⟨rfl, by rw [HV.out]⟩)
            case measure => simp [intOf]
          · have HV : Hid (leastV x y = y) := Lib.hid (by unfold leastV; rw [if_neg hx, if_neg hy, if_pos (of_decide_eq_true hlt)])
            clear hy hx
            go_wp2
            go_round
            case rel => exact .inr (.inr ⟨rfl, by rw [HV.out]⟩)
            case measure => simp [intOf]
    · go_wp2
      go_ret
      exact ⟨rfl, rfl⟩

/-- What Check answers. -/
def checkM (l : List PolM) (op : Nat) (q : Int) (kn : Nat) (N : Int) : Int := leastV (chkC l op q kn N) (polsV l)
set_option maxHeartbeats 1600000 in
theorem bCheck_any (w : World) (B : Nat) (A KA : Option Addr) (n c kn kc op : Nat) (l : List PolM) (q N : Int) (h : ArgC w B 4 A n c (FP l)) (hB : B ≤ w.heap.size) (hn : n ≤ 8796093022000) :
    Calls Try.prog 13 #[.slice A n c, .agg #[.int .u8 (op : Nat), .int .i64 q, .slice KA kn kc, .int .i64 N]] w (ValEnd w (.int .i64 (checkM l op q kn N))) := by
  have HC := Lib.hid (fun W (hW : Below w.heap.size w W) => checkCall_any W w.heap.size A KA n c kn kc op l q N ((h.more hB).below hW) hW.size)
  have HP := Lib.hid (fun W (hW : Below w.heap.size w W) => pols_any W w.heap.size A n c l ((h.more hB).below hW) hW.size hn)
  have HV : Hid (checkM l op q kn N = leastV (chkC l op q kn N) (polsV l)) := Lib.hid rfl
  generalize chkC l op q kn N = x at HC HV
  generalize polsV l = y at HP HV
  clear h
  go_enter Try.func13, Try.ntmps13
  go_wp2_with fail
  with_reducible refine (HC.out _ (below_a1 _ _)).mono ?_
  rintro e w1 ⟨rfl, hb⟩
  have HB1 := Lib.hid ((below_a1 w _).trans (hb.mono (by simp)))
  clear hb
  go_wp2_with fail
  with_reducible refine (HP.out _ HB1.out).mono ?_
  rintro e w2 ⟨rfl, hb⟩
  have HB2 := Lib.hid (HB1.out.trans (hb.mono HB1.out.size))
  clear hb
  go_wp2_with fail
  have bl := BlkL.new w2 [.int .i64 x, .int .i64 y] 27
  have HL := Lib.hid (least_any _ _ x y (bl.cell 0 _ rfl) (bl.cell 1 _ rfl))
  clear bl
  with_reducible refine (HL.out).mono ?_
  rintro e w3 ⟨rfl, rfl⟩
  have HB3 := Lib.hid (HB2.out.alloc HB2.out.size (.cells #[.int .i64 x, .int .i64 y] 27))
  clear HL
  go_wp2
  go_ret
  exact ⟨by rw [HV.out] <;> rfl, HB3.out⟩
end Go.Proofs.Ytnkecjjfbllgdaa
