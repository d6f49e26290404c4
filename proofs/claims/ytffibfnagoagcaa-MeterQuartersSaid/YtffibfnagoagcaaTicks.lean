/- Contract: the document's Ticks. -/
import Derived.Test.YtffibfnagoagcaaWhole
namespace Go.Proofs.Ytffibfnagoagcaa
open Go.RowKit
set_option maxRecDepth 100000

/-- The ticks of a float that is not below 0, without a bound. -/
def ticksN (b hz how : Nat) : Nat := roundV (upN (manS (szB b) * hz) (expS (szB b))) (dnN (expS (szB b))) how

def ticksArg (hz how : Int) : Bool := decide (hz < 1 ∨ 1000000000 < hz ∨ how < 0 ∨ 2 < how)
def ticksOut (b : Nat) : Bool := decide (kindB b = 3 ∨ 0 < kindB b ∧ negB b = true)

/-- What the document's Ticks answers. -/
def ticksV (b : Nat) (hz how : Int) : Int × Int :=
  if ticksArg hz how then (0, 1)
  else if kindB b = 4 then (0, 4)
  else if ticksOut b then (0, 5)
  else if ticksN b hz.toNat how.toNat ≤ 4611686018427387903 then ((ticksN b hz.toNat how.toNat : Nat), 0)
  else (0, 5)

theorem ticksV_arg {b : Nat} {hz how : Int} (h : ticksArg hz how = true) : ticksV b hz how = (0, 1) := by unfold ticksV; rw [if_pos h]
theorem ticksV_nan {b : Nat} {hz how : Int} (h : ticksArg hz how = false) (h4 : kindB b = 4) : ticksV b hz how = (0, 4) := by
  unfold ticksV; rw [if_neg (by rw [h]; simp), if_pos h4]
theorem ticksV_out {b : Nat} {hz how : Int} (h : ticksArg hz how = false) (h4 : kindB b ≠ 4) (ho : ticksOut b = true) : ticksV b hz how = (0, 5) := by
  unfold ticksV; rw [if_neg (by rw [h]; simp), if_neg h4, if_pos ho]
theorem ticksV_ok {b : Nat} {hz how : Int} (h : ticksArg hz how = false) (h4 : kindB b ≠ 4) (ho : ticksOut b = false) (hl : ticksN b hz.toNat how.toNat ≤ 4611686018427387903) :
    ticksV b hz how = (((ticksN b hz.toNat how.toNat : Nat) : Int), 0) := by
  unfold ticksV; rw [if_neg (by rw [h]; simp), if_neg h4, if_neg (by rw [ho]; simp), if_pos hl]
theorem ticksV_big {b : Nat} {hz how : Int} (h : ticksArg hz how = false) (h4 : kindB b ≠ 4) (ho : ticksOut b = false) (hl : ¬ ticksN b hz.toNat how.toNat ≤ 4611686018427387903) :
    ticksV b hz how = (0, 5) := by
  unfold ticksV; rw [if_neg (by rw [h]; simp), if_neg h4, if_neg (by rw [ho]; simp), if_neg hl]

theorem roundV_ge (N M how : Nat) : N / M ≤ roundV N M how := by unfold roundV; split <;> omega
theorem ticksN_big {m hz e how : Nat} (hm : 0 < m) (hh : 0 < hz) (he : 70 < e) : ¬ roundV (upN (m * hz) e) (dnN e) how ≤ 4611686018427387903 := by
  have h1 := roundV_ge (upN (m * hz) e) (dnN e) how
  unfold upN dnN at *
  have e1 : (-(e : Int)).toNat = 0 := by omega
  have e2 : ((e : Int)).toNat = e := by omega
  rw [e1, e2, Nat.pow_zero] at h1 ⊢
  rw [Nat.div_one] at h1
  have h2 : 2 ^ 70 ≤ 2 ^ e := Nat.pow_le_pow_right (by omega) (by omega)
  have h3 : 1 ≤ m * hz := Nat.mul_pos hm hh
  have h4 : 1 * 2 ^ 70 ≤ m * hz * 2 ^ e := Nat.mul_le_mul h3 h2
  omega

def TwoV (w : World) (v : Int × Int) (e : Ending) (w' : World) : Prop := e = .returned (.tuple #[.int .i64 v.1, .int .i64 v.2]) ∧ Below w.heap.size w w'

end Go.Proofs.Ytffibfnagoagcaa
