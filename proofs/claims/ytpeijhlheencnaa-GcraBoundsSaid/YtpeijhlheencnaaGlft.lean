/- Contracts of package gcra: Left, Idle. -/
import Derived.Test.YtpeijhlheencnaaGchk
namespace Go.Proofs.Ytpeijhlheencnaa
open Go.RowKit
set_option maxRecDepth 100000

/-- What Left answers. -/
def dleftV (T Tau tat now : Int) : Value :=
  if chkV T Tau [tat, now] = 0 then .tuple #[.int .i64 ((leftV T.toNat Tau.toNat tat.toNat now.toNat : Nat) : Int), .int .i64 0] else .tuple #[.int .i64 0, .int .i64 1]
/-- What Idle answers. -/
def didleV (tat now : Int) : Value := if isTick tat && isTick now then .tuple #[.bool (decide (tat ≤ now)), .int .i64 0] else .tuple #[.bool false, .int .i64 1]

theorem areTicks_two (W : World) (b : Nat) (x y : Int) (hb : b = W.heap.size) :
    Calls Try.prog 42 #[.slice (some ⟨b, 0, none⟩) 2 2] (W.alloc (.cells #[.int .i64 x, .int .i64 y] 2)) fun e w' => e = .returned (.bool (isTick x && isTick y)) ∧ W.alloc (.cells #[.int .i64 x, .int .i64 y] 2) = w' := by
  subst hb
  have := areTicks_any (W.alloc (.cells #[.int .i64 x, .int .i64 y] 2)) (W.heap.size + 1) (some ⟨W.heap.size, 0, none⟩) 2 2 [x, y] (ints_lit W [x, y] 2 rfl (by omega))
  simpa using this
end Go.Proofs.Ytpeijhlheencnaa
