/- Contract: meter.Add, whatever the figures. -/
import Derived.Test.YtffibfnagoagcaaMetA
import Derived.Test.YtffibfnagoagcaaBlk
import Derived.Deep.RegionWith
import Derived.Outline
namespace Go.Proofs.Ytffibfnagoagcaa
open Go.RowKit
set_option maxRecDepth 100000
set_option linter.unusedVariables false

/-- The figures of a meter. -/
structure MV where
  n : Int
  bad : Int
  sum : Nat
  lost : Nat
  low : Nat
  high : Nat
  mean : Nat
  spr : Nat
def MV.val (m : MV) : Value := .agg #[.int .i64 m.n, .int .i64 m.bad, .float .f64 m.sum, .float .f64 m.lost, .float .f64 m.low, .float .f64 m.high, .float .f64 m.mean, .float .f64 m.spr]
def MV.can (m : MV) : MV := ⟨m.n, m.bad, canB m.sum, canB m.lost, canB m.low, canB m.high, canB m.mean, canB m.spr⟩
structure MV.Ok (m : MV) : Prop where
  sum : m.sum ≤ 18446744073709551615
  lost : m.lost ≤ 18446744073709551615
  low : m.low ≤ 18446744073709551615
  high : m.high ≤ 18446744073709551615
  mean : m.mean ≤ 18446744073709551615
  spr : m.spr ≤ 18446744073709551615
def addC (c : MV) (x : Nat) : MV :=
  if nanB x then { c with bad := c.bad + 1 } else
    ⟨c.n + 1, c.bad, fop .add c.sum x, (if fnB (fop .add c.sum x) then fop .add c.lost (missC c.sum x (fop .add c.sum x)) else c.lost), canB (leastB c.low x), canB (mostB c.high x),
      fop .add c.mean (fop .quo (fop .sub x c.mean) (canB (floatOfInt FloatKind.f64 (c.n + 1)))),
      fop .add c.spr (fop .mul (fop .sub x c.mean) (fop .sub x (fop .add c.mean (fop .quo (fop .sub x c.mean) (canB (floatOfInt FloatKind.f64 (c.n + 1)))))))⟩
theorem addC_num {c : MV} {x : Nat} {b : Bool} (nx : nanB x = false) (hf : fnB (fop .add c.sum x) = b) : addC c x =
    ⟨c.n + 1, c.bad, fop .add c.sum x, (bif b then fop .add c.lost (missC c.sum x (fop .add c.sum x)) else c.lost), canB (leastB c.low x), canB (mostB c.high x),
      fop .add c.mean (fop .quo (fop .sub x c.mean) (canB (floatOfInt FloatKind.f64 (c.n + 1)))),
      fop .add c.spr (fop .mul (fop .sub x c.mean) (fop .sub x (fop .add c.mean (fop .quo (fop .sub x c.mean) (canB (floatOfInt FloatKind.f64 (c.n + 1)))))))⟩ := by
  unfold addC
  rw [nx, if_neg (by simp)]
  subst hf
  rcases h : fnB (fop .add c.sum x) with _ | _ <;> simp
theorem fn_can (b : Nat) : fnB (canB b) = fnB b := by
  rcases h : nanB b with _ | _
  · rw [can_fin h]
  · rw [can_nan h]
    have := of_decide_eq_true h
    have e : fnB b = false := decide_eq_false (by omega)
    rw [e]; rfl
theorem fn_fV (op : BinOp) (x y : Nat) (w : World) : fnB (fV op x y w) = fnB (fop op (canB x) (canB y)) := by rw [← can_fV op x y w, fn_can]
def ME (w : World) (c : MV) (e : Ending) (w' : World) : Prop := ∃ m : MV, e = .returned m.val ∧ m.Ok ∧ m.can = c ∧ Below w.heap.size w w'
theorem addP_nan (w : World) (m : MV) (x : Nat) (h : m.Ok) (hx : x ≤ 18446744073709551615) (hb : -1152921504606846976 ≤ m.bad) (hb2 : m.bad ≤ 1152921504606846976) (nx : nanB x = true) :
    Calls Try.prog 16 #[m.val, .float .f64 x] w (ME w (addC m.can (canB x))) := by
  have NX := fun w => isNaN_any w x hx
  rw [nx] at NX
  unfold addC
  rw [nan_can, nx, if_pos rfl]
  obtain ⟨n, bad, su, lo, lw, hi, me, sp⟩ := m
  simp only [MV.val, MV.can] at *
  have HX := Lib.hid h
  clear h
  have kst : ∀ (a : Addr) (x : Nat) (w : World), (store a (.float .f64 x)).run Try.prog w = stored Try.prog w a (.float .f64 x) .plain := fun a x w => run_store _ _ _ _ _ rfl
  go_enter Try.func16, Try.ntmps16
  go_wp2_with fail
  with_reducible refine (NX _).mono ?_
  rintro e w1 ⟨rfl, rfl⟩
  go_wp2
  refine bodyPost_ret (v := (MV.val ⟨n, bad + 1, su, lo, lw, hi, me, sp⟩)) (by simp [results, Try.results16, go_sem, MV.val]) rfl ⟨⟨n, bad + 1, su, lo, lw, hi, me, sp⟩, rfl, ⟨HX.out.sum, HX.out.lost, HX.out.low, HX.out.high, HX.out.mean, HX.out.spr⟩, rfl, ?_⟩
  exact ((Below.refl _ _).alloc (by simp) _).alloc (by simp) _

theorem upon_float {P : Program} {o : Oper} {a : Act} {next : Act → World → Prop} {Q : Exit → Act → World → Prop} {op : BinOp} (hop : isArith op = true) {t : TypeId} {x y : Nat} {w : World}
    (h : ∀ v k, v ≤ 18446744073709551615 → Hid (canB v = fop op (canB x) (canB y)) → next (a.put o.dst (.float .f64 v)) (w.drewN k)) :
    Oper.upon P o a next Q ((Sem.run P (binOp op t (.float .f64 x) (.float .f64 y)) w).andThen fun a w' => Result.ok (Next.value a) w') := by
  rw [run_fV P hop]
  exact h _ _ (fV_le _ _ _ _) (Lib.hid (can_fV _ _ _ _))
end Go.Proofs.Ytffibfnagoagcaa
