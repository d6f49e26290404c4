/- Contracts: Total and New, the program's and the document's; the document's Same. -/
import Derived.Test.YtffibfnagoagcaaMetB
namespace Go.Proofs.Ytffibfnagoagcaa
open Go.RowKit
set_option maxRecDepth 100000
set_option linter.unusedVariables false

def VE (w : World) (c : Nat) (e : Ending) (w' : World) : Prop := ∃ v, e = .returned (.float .f64 v) ∧ v ≤ 18446744073709551615 ∧ canB v = c ∧ Below w.heap.size w w'
def totC (c : MV) : Nat := if szB c.lost = 0 then c.sum else fop .add c.sum c.lost
theorem sz_can (b : Nat) : (szB (canB b) = 0) ↔ (szB b = 0) := by
  rcases h : nanB b with _ | _
  · rw [can_fin h]
  · rw [can_nan h]
    have := of_decide_eq_true h
    have e : szB nanV ≠ 0 := by decide
    constructor
    · intro q; exact absurd q e
    · intro q; omega
theorem tot_zero {m : MV} (h : szB m.lost = 0) : totC m.can = canB m.sum := by
  unfold totC
  exact if_pos ((sz_can m.lost).2 h)
theorem tot_more {m : MV} (h : szB m.lost ≠ 0) : totC m.can = fop .add (canB m.sum) (canB m.lost) := by
  unfold totC
  exact if_neg (fun e => h ((sz_can m.lost).1 e))
theorem ord_lost (b : Nat) (hb : b ≤ 18446744073709551615) : (szB b = 0 ∧ FloatKind.f64.format.order b 0 = some .eq) ∨ (szB b ≠ 0 ∧ (FloatKind.f64.format.order b 0 = none ∨ FloatKind.f64.format.order b 0 = some .lt ∨ FloatKind.f64.format.order b 0 = some .gt)) := by
  rcases hn : nanB b with _ | _
  · rcases ord_nought hb hn with ⟨q, r, s⟩ | ⟨q, r, s⟩ | ⟨q, r, s⟩
    · unfold le0B at q
      unfold lt0B at r
      rcases hz : decide (szB b = 0) with _ | _
      · rw [hz] at q r
        simp at q r
        rw [q] at r; cases r
      · exact .inl ⟨of_decide_eq_true hz, s⟩
    · unfold lt0B at r
      rw [Bool.and_eq_true] at r
      refine .inr ⟨fun e => ?_, .inr (.inl s)⟩
      rw [decide_eq_true e] at r
      exact absurd r.1 (by decide)
    · unfold le0B at q
      rw [Bool.or_eq_false_iff] at q
      exact .inr ⟨of_decide_eq_false q.1, .inr (.inr s)⟩
  · have h := of_decide_eq_true hn
    exact .inr ⟨by omega, .inl (ordF_nan h)⟩

theorem totP_any (w : World) (m : MV) (h : m.Ok) : Calls Try.prog 20 #[m.val] w (VE w (totC m.can)) := by
  rcases ord_lost m.lost h.lost with ⟨hz, ho⟩ | ⟨hz, ho⟩
  · rw [tot_zero hz]
    obtain ⟨n, bad, su, lo, lw, hi, me, sp⟩ := m
    simp only [MV.val] at *
    have HX := Lib.hid h
    clear h
    go_enter Try.func20, Try.ntmps20
    go_wp2
    go_ret
    refine ⟨su, rfl, HX.out.sum, rfl, ?_⟩
    repeat' first
      | with_reducible exact Below.refl _ _
      | with_reducible refine Below.setCell ?_ (by simp) _
      | with_reducible refine Below.alloc ?_ (by simp) _
      | with_reducible refine below_drewN ?_ _
      | with_reducible refine Below.drew ?_
  · rw [tot_more hz]
    obtain ⟨n, bad, su, lo, lw, hi, me, sp⟩ := m
    simp only [MV.val] at *
    have HX := Lib.hid h
    clear h
    rcases ho with ho | ho | ho
    all_goals
      go_enter Try.func20, Try.ntmps20
      go_wp2_with fail
      refine upon_float rfl ?_
      intro v k lv cv
      go_wp2
      go_ret
      refine ⟨v, rfl, lv, cv.out, ?_⟩
      repeat' first
        | with_reducible exact Below.refl _ _
        | with_reducible refine Below.setCell ?_ (by simp) _
        | with_reducible refine Below.alloc ?_ (by simp) _
        | with_reducible refine below_drewN ?_ _
        | with_reducible refine Below.drew ?_

theorem totD_any (w : World) (m : MV) (h : m.Ok) : Calls Try.prog 21 #[m.val] w (VE w (totC m.can)) := by
  have HK := fun w => kind3_any w m.lost h.lost
  by_cases hz : szB m.lost = 0
  · rw [tot_zero hz]
    obtain ⟨n, bad, su, lo, lw, hi, me, sp⟩ := m
    simp only [MV.val] at *
    have HX := Lib.hid h
    clear h
    have hk : ((kindB lo : Nat) : Int) = 0 := by have := (kind0 lo).2 hz; omega
    rw [hk] at HK
    go_enter Try.func21, Try.ntmps21
    go_wp2_with fail
    with_reducible refine (HK _).mono ?_
    rintro e w1 ⟨rfl, rfl⟩
    go_wp2
    go_ret
    refine ⟨su, rfl, HX.out.sum, rfl, ?_⟩
    repeat' first
      | with_reducible exact Below.refl _ _
      | with_reducible refine Below.setCell ?_ (by simp) _
      | with_reducible refine Below.alloc ?_ (by simp) _
      | with_reducible refine below_drewN ?_ _
      | with_reducible refine Below.drew ?_
  · rw [tot_more hz]
    obtain ⟨n, bad, su, lo, lw, hi, me, sp⟩ := m
    simp only [MV.val] at *
    have HX := Lib.hid h
    clear h
    have hk : ¬ ((kindB lo : Nat) : Int) = 0 := fun e => hz ((kind0 lo).1 (by omega))
    all_goals
      go_enter Try.func21, Try.ntmps21
      go_wp2_with fail
      with_reducible refine (HK _).mono ?_
      rintro e w1 ⟨rfl, rfl⟩
      go_wp2_with fail
      refine upon_float rfl ?_
      intro v k lv cv
      go_wp2
      go_ret
      refine ⟨v, rfl, lv, cv.out, ?_⟩
      repeat' first
        | with_reducible exact Below.refl _ _
        | with_reducible refine Below.setCell ?_ (by simp) _
        | with_reducible refine Below.alloc ?_ (by simp) _
        | with_reducible refine below_drewN ?_ _
        | with_reducible refine Below.drew ?_

theorem copysign_any (w : World) : Calls Try.prog 34 #[.float .f64 0, .float .f64 13830554455654793216] w fun e w' => e = .returned (.float .f64 9223372036854775808) ∧ w = w' := by
  go_enter Try.func34, Try.ntmps34
  go_wp2
  rw [run_callFunc_extern Try.func58 (by kernel_rfl) (by kernel_rfl) (by kernel_rfl) (e := Extern.MathFloatBits.float64bits) (by kernel_rfl), run_f64bits]
  simp only [Result.andThen]
  rw [Oper.upon_value]
  go_wp2
  rw [run_callFunc_extern Try.func58 (by kernel_rfl) (by kernel_rfl) (by kernel_rfl) (e := Extern.MathFloatBits.float64bits) (by kernel_rfl), run_f64bits]
  simp only [Result.andThen]
  rw [Oper.upon_value]
  go_wp2
  rw [show Go.bits BinOp.or IntKind.u64 (Go.bits BinOp.andNot IntKind.u64 0 9223372036854775808) (Go.bits BinOp.and IntKind.u64 13830554455654793216 9223372036854775808) = ((9223372036854775808 : Nat) : Int) from by decide +kernel]
  rw [run_callFunc_extern Try.func41 (by kernel_rfl) (by kernel_rfl) (by kernel_rfl) (e := Extern.MathFloatBits.float64frombits) (by kernel_rfl), run_f64from]
  simp only [Result.andThen]
  rw [Oper.upon_value]
  go_wp2
  go_ret
  exact ⟨rfl, rfl⟩
theorem inf_pos (w : World) : Calls Try.prog 35 #[.int .i64 1] w fun e w' => e = .returned (.float .f64 9218868437227405312) ∧ w = w' := by
  go_enter Try.func35, Try.ntmps35
  go_wp2
  rw [run_callFunc_extern Try.func41 (by kernel_rfl) (by kernel_rfl) (by kernel_rfl) (e := Extern.MathFloatBits.float64frombits) (by kernel_rfl), show (9218868437227405312 : Int) = ((9218868437227405312 : Nat) : Int) from rfl, run_f64from]
  simp only [Result.andThen]
  rw [Oper.upon_value]
  go_wp2
  go_ret
  exact ⟨rfl, rfl⟩
theorem inf_neg (w : World) : Calls Try.prog 35 #[.int .i64 (-1)] w fun e w' => e = .returned (.float .f64 18442240474082181120) ∧ w = w' := by
  go_enter Try.func35, Try.ntmps35
  go_wp2
  rw [run_callFunc_extern Try.func41 (by kernel_rfl) (by kernel_rfl) (by kernel_rfl) (e := Extern.MathFloatBits.float64frombits) (by kernel_rfl), show (18442240474082181120 : Int) = ((18442240474082181120 : Nat) : Int) from rfl, run_f64from]
  simp only [Result.andThen]
  rw [Oper.upon_value]
  go_wp2
  go_ret
  exact ⟨rfl, rfl⟩
def newM : MV := ⟨0, 0, 9223372036854775808, 0, 9218868437227405312, 18442240474082181120, 0, 0⟩
theorem newM_ok : newM.Ok := by constructor <;> decide

theorem newP_any (w : World) : Calls Try.prog 13 #[] w fun e w' => e = .returned newM.val ∧ Below w.heap.size w w' := by
  have HC := copysign_any
  have H1 := inf_pos
  have H2 := inf_neg
  have kst : ∀ (a : Addr) (x : Nat) (w : World), (store a (.float .f64 x)).run Try.prog w = stored Try.prog w a (.float .f64 x) .plain := fun a x w => run_store _ _ _ _ _ rfl
  go_enter Try.func13, Try.ntmps13
  go_wp2_with fail
  with_reducible refine (HC _).mono ?_
  rintro e w1 ⟨rfl, rfl⟩
  go_wp2_with fail
  with_reducible refine (H1 _).mono ?_
  rintro e w1 ⟨rfl, rfl⟩
  go_wp2_with fail
  with_reducible refine (H2 _).mono ?_
  rintro e w1 ⟨rfl, rfl⟩
  go_wp2
  refine bodyPost_ret (v := newM.val) (by simp [results, Try.results13, go_sem, MV.val, newM]) rfl ⟨rfl, ?_⟩
  repeat' first
    | with_reducible exact Below.refl _ _
    | with_reducible refine Below.setCell ?_ (by simp) _
    | with_reducible refine Below.alloc ?_ (by simp) _
    | with_reducible refine below_drewN ?_ _
    | with_reducible refine Below.drew ?_

theorem newD_any (w : World) : Calls Try.prog 14 #[] w fun e w' => e = .returned newM.val ∧ Below w.heap.size w w' := by
  have HC := copysign_any
  have H1 := inf_pos
  have H2 := inf_neg
  have kst : ∀ (a : Addr) (x : Nat) (w : World), (store a (.float .f64 x)).run Try.prog w = stored Try.prog w a (.float .f64 x) .plain := fun a x w => run_store _ _ _ _ _ rfl
  go_enter Try.func14, Try.ntmps14
  go_wp2_with fail
  with_reducible refine (HC _).mono ?_
  rintro e w1 ⟨rfl, rfl⟩
  go_wp2_with fail
  with_reducible refine (H1 _).mono ?_
  rintro e w1 ⟨rfl, rfl⟩
  go_wp2_with fail
  with_reducible refine (H2 _).mono ?_
  rintro e w1 ⟨rfl, rfl⟩
  go_wp2
  refine bodyPost_ret (v := newM.val) (by simp [results, Try.results14, go_sem, MV.val, newM]) rfl ⟨rfl, ?_⟩
  repeat' first
    | with_reducible exact Below.refl _ _
    | with_reducible refine Below.setCell ?_ (by simp) _
    | with_reducible refine Below.alloc ?_ (by simp) _
    | with_reducible refine below_drewN ?_ _
    | with_reducible refine Below.drew ?_
end Go.Proofs.Ytffibfnagoagcaa
