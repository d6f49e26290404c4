/- Floats' sums, differences, products and quotients, where a NaN is drawn; one NaN for all. -/
import Derived.Test.YtffibfnagoagcaaFcmp
import Derived.Test.YtffibfnagoagcaaEnd
import Derived.Laws.FloatArith
import Derived.Deep.Draws
namespace Go.Proofs.Ytffibfnagoagcaa
open Go.RowKit Ieee
set_option maxRecDepth 100000

def drawV (x y : Nat) (w : World) : Nat := (Question.nanBits .f64 x y).cut (w.tape w.drawn (.nanBits .f64 x y))
theorem draw_nan (x y : Nat) (w : World) : nanB (drawV x y w) = true ∧ drawV x y w ≤ 18446744073709551615 := by
  have e : drawV x y w = (w.tape w.drawn (.nanBits .f64 x y) % 2) * 9223372036854775808 + 9218868437227405312 + 1 + (w.tape w.drawn (.nanBits .f64 x y) / 2) % 4503599627370495 := rfl
  rw [e]
  generalize w.tape w.drawn (.nanBits .f64 x y) = t
  have h1 := Nat.mod_lt t (y := 2) (by omega)
  have h2 := Nat.mod_lt (t / 2) (y := 4503599627370495) (by omega)
  generalize t % 2 = a at *
  generalize t / 2 % 4503599627370495 = b at *
  refine ⟨decide_eq_true ?_, ?_⟩
  · unfold szB; omega
  · omega
/-- What a float operation gives: its bits, or a NaN that is drawn. -/
def fV (op : BinOp) (x y : Nat) (w : World) : Nat := (floatBits op .f64 x y).getD (drawV x y w)
/-- How many draws it takes. -/
def fK (op : BinOp) (x y : Nat) : Nat := if (floatBits op .f64 x y).isSome then 0 else 1
def isArith : BinOp → Bool
  | .add | .sub | .mul | .quo => true
  | _ => false
theorem run_fV (P : Program) {op : BinOp} (h : isArith op = true) (t : TypeId) (x y : Nat) (w : World) : (binOp op t (.float .f64 x) (.float .f64 y)).run P w = .ok (.float .f64 (fV op x y w)) (w.drewN (fK op x y)) := by
  unfold fV fK
  rcases hb : floatBits op .f64 x y with _ | r
  · have e : (if (none : Option Nat).isSome = true then 0 else 1) = 1 := rfl
    rw [e]
    unfold drawV
    unfold floatBits at hb
    cases op <;> first | (cases h; done) | skip
    all_goals (simp only at hb; simp [binOp, Op.floatArith, hb, Question.forced]; rfl)
  · exact run_float_arith w op t .f64 x y r hb

def nanV : Nat := 9221120237041090561
/-- One NaN for all. -/
def canB (b : Nat) : Nat := if nanB b then nanV else b
theorem can_nan {b : Nat} (h : nanB b = true) : canB b = nanV := by unfold canB; rw [h]; rfl
theorem can_fin {b : Nat} (h : nanB b = false) : canB b = b := by unfold canB; rw [h]; rfl
theorem nan_nanV : nanB nanV = true := by decide
theorem nan_can (b : Nat) : nanB (canB b) = nanB b := by
  rcases h : nanB b with _ | _
  · rw [can_fin h, h]
  · rw [can_nan h]; exact nan_nanV
theorem can_can (b : Nat) : canB (canB b) = canB b := by
  rcases h : nanB b with _ | _
  · rw [can_fin h, can_fin h]
  · rw [can_nan h]; exact can_nan nan_nanV
theorem bits_nanl {op : BinOp} {x y : Nat} (h : nanB x = true) : floatBits op .f64 x y = none := by
  have h' : 9218868437227405312 < szB x := of_decide_eq_true h
  obtain ⟨n, t, e⟩ := read_nan h'
  have e' : FloatKind.f64.format.read x = .nan n t := e
  unfold floatBits
  cases op <;> simp [Format.add, Format.sub, Format.mul, Format.div, e', Datum.sum, Datum.product, Datum.quotient]
theorem bits_nanr {op : BinOp} {x y : Nat} (h : nanB y = true) : floatBits op .f64 x y = none := by
  have h' : 9218868437227405312 < szB y := of_decide_eq_true h
  obtain ⟨n, t, e⟩ := read_nan h'
  have e' : FloatKind.f64.format.read y = .nan n t := e
  unfold floatBits
  cases op <;> simp [Format.add, Format.sub, Format.mul, Format.div, e', Datum.opposite] <;> (rcases FloatKind.f64.format.read x with _ | _ | _ <;> simp [Datum.sum, Datum.product, Datum.quotient])
/-- The operation on floats with one NaN. -/
def fop (op : BinOp) (a b : Nat) : Nat := canB ((floatBits op .f64 a b).getD nanV)
theorem can_fV (op : BinOp) (x y : Nat) (w : World) : canB (fV op x y w) = fop op (canB x) (canB y) := by
  unfold fV fop
  rcases hx : nanB x with _ | _
  · rcases hy : nanB y with _ | _
    · rw [can_fin hx, can_fin hy]
      rcases floatBits op .f64 x y with _ | r
      · show canB (drawV x y w) = canB nanV
        rw [can_nan (draw_nan x y w).1, can_nan nan_nanV]
      · rfl
    · rw [bits_nanr hy, bits_nanr ((nan_can y).trans hy)]
      show canB (drawV x y w) = canB nanV
      rw [can_nan (draw_nan x y w).1, can_nan nan_nanV]
  · rw [bits_nanl hx, bits_nanl ((nan_can x).trans hx)]
    show canB (drawV x y w) = canB nanV
    rw [can_nan (draw_nan x y w).1, can_nan nan_nanV]
theorem fV_le (op : BinOp) (x y : Nat) (w : World) : fV op x y w ≤ 18446744073709551615 := by
  unfold fV
  rcases hb : floatBits op .f64 x y with _ | r
  · exact (draw_nan x y w).2
  · have := floatBits_wf hb
    show r ≤ _
    simp [Lit.wf] at this
    have e : 2 ^ FloatKind.f64.format.width = 18446744073709551616 := rfl
    omega
end Go.Proofs.Ytffibfnagoagcaa
