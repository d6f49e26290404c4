/- Contract: Compare of the document's numbers. -/
import Derived.Test.YtpjgpiiibgogeaaWord
namespace Go.Proofs.Ytpjgpiiibgogeaa
open Go.RowKit
set_option maxRecDepth 100000

/-- -1, 0 or 1. -/
def cmpV (N M : Nat) : Int := if N < M then -1 else if M < N then 1 else 0
theorem cmpV_lt {N M : Nat} (h : N < M) : cmpV N M = -1 := by unfold cmpV; rw [if_pos h]
theorem cmpV_gt {N M : Nat} (h : M < N) : cmpV N M = 1 := by unfold cmpV; rw [if_neg (by omega), if_pos h]
theorem cmpV_eq {N M : Nat} (h : N = M) : cmpV N M = 0 := by unfold cmpV; rw [if_neg (by omega), if_neg (by omega)]

theorem below_drewN {B : Nat} {a w : World} (h : Below B a w) (n : Nat) : Below B a (w.drewN n) := ⟨h.os, h.tape, h.output, h.size, h.block⟩

/-- How a call ends that answers a value and leaves what lay there as it was. -/
def ValEnd (w : World) (v : Value) (e : Ending) (w' : World) : Prop := e = .returned v ∧ Below w.heap.size w w'
theorem tdiv_nat (a b : Nat) : (a : Int).tdiv (b : Int) = ((a / b : Nat) : Int) := rfl

/-- The upper digits alike, a lesser digit below them: a lesser number. -/
theorem lt_of_top {xs ys : List Nat} {k N M : Nat} (hx : Mth.Lo xs N) (hy : Mth.Lo ys M) (hk : 0 < k) (h1 : k ≤ xs.length) (h2 : k ≤ ys.length)
    (he : Mth.val (xs.drop k) = Mth.val (ys.drop k)) (hd : xs.getD (k - 1) 0 < ys.getD (k - 1) 0) : N < M := by
  have ex := drop_pred xs k hk h1
  have ey := drop_pred ys k hk h2
  have sx : Mth.val xs = Mth.val (xs.take (k - 1)) + 4294967296 ^ (k - 1) * Mth.val (xs.drop (k - 1)) := by
    have := Mth.val_append (xs.take (k - 1)) (xs.drop (k - 1))
    rw [List.take_append_drop, List.length_take, Nat.min_eq_left (by omega)] at this
    exact this
  have sy : Mth.val ys = Mth.val (ys.take (k - 1)) + 4294967296 ^ (k - 1) * Mth.val (ys.drop (k - 1)) := by
    have := Mth.val_append (ys.take (k - 1)) (ys.drop (k - 1))
    rw [List.take_append_drop, List.length_take, Nat.min_eq_left (by omega)] at this
    exact this
  have hlt := Mth.val_lt (l := xs.take (k - 1)) (fun d hd => hx.1 d (List.mem_of_mem_take hd))
  rw [List.length_take, Nat.min_eq_left (by omega)] at hlt
  rw [hx.2] at sx
  rw [hy.2] at sy
  have hm : 4294967296 ^ (k - 1) * (Mth.val (xs.drop (k - 1)) + 1) ≤ 4294967296 ^ (k - 1) * Mth.val (ys.drop (k - 1)) := Nat.mul_le_mul_left _ (by omega)
  rw [Nat.mul_add] at hm
  omega

def CompInv (w : World) (xs ys : List Nat) (n : Nat) (iv : Value) (wr : World) : Prop :=
  ∃ k t : Nat, k ≤ n ∧ iv = .int .i64 ((k : Int) - 1) ∧ Mth.val (xs.drop k) = Mth.val (ys.drop k) ∧ wr = w.drewN t

def CmpEnd (w : World) (N M : Nat) (e : Ending) (w' : World) : Prop := e = .returned (.int .i64 (cmpV N M)) ∧ ∃ t, w' = w.drewN t

end Go.Proofs.Ytpjgpiiibgogeaa
