/- Ticks of a float: by its odd part as by its whole one. -/
import Derived.Test.YtafboimlchjnaaaDoorIee
namespace Go.Proofs.YtafboimlchjnaaaDoor

theorem upN_dnN (a : Nat) (e : Int) (k : Nat) : upN (a * 2 ^ k) e * dnN (e + k) = upN a (e + k) * dnN e := by
  unfold upN dnN
  rw [Nat.mul_assoc, Nat.mul_assoc, Nat.mul_assoc, ← Nat.pow_add, ← Nat.pow_add, ← Nat.pow_add]
  refine congrArg (fun n => a * 2 ^ n) ?_
  omega

/-- Ticks by m times 2^e, m odd or nought. -/
def tickM (m : Nat) (e : Int) (hz how : Nat) : Nat := roundV (upN (m * hz) e) (dnN e) how
theorem ticksN_odd (b hz how : Nat) : ticksN b hz how = tickM (oddM (manS (szB b))) (expS (szB b) + tz 64 (manS (szB b))) hz how := by
  unfold ticksN tickM
  rcases Nat.eq_zero_or_pos (manS (szB b)) with h | h
  · have e : oddM (manS (szB b)) = 0 := by rw [h]; rfl
    rw [e, h, Nat.zero_mul]
    have z : ∀ e, upN 0 e = 0 := fun e => by unfold upN; rw [Nat.zero_mul]
    rw [z, z]
    exact roundV_ratio (dnN_pos _) (dnN_pos _) (by rw [Nat.zero_mul, Nat.zero_mul]) how
  · have h1 := tz_spec 64 (manS (szB b)) h (by have := manS_lt (szB b); omega)
    have h2 : oddM (manS (szB b)) * 2 ^ tz 64 (manS (szB b)) = manS (szB b) := h1.2
    generalize tz 64 (manS (szB b)) = k at *
    refine roundV_ratio (dnN_pos _) (dnN_pos _) ?_ how
    have h3 := upN_dnN (oddM (manS (szB b)) * hz) (expS (szB b)) k
    rw [Nat.mul_right_comm, h2] at h3
    exact h3

/-- A number that has more than 128 bits when it is shifted is no tick. -/
theorem tick_big {v e how : Nat} (h : 340282366920938463463374607431768211456 ≤ v * 2 ^ e) : ¬ roundV (upN v e) (dnN e) how ≤ 4611686018427387903 := by
  have h1 := roundV_ge (upN v e) (dnN e) how
  unfold upN dnN at *
  have e1 : (-(e : Int)).toNat = 0 := by omega
  have e2 : ((e : Int)).toNat = e := by omega
  rw [e1, e2, Nat.pow_zero] at h1 ⊢
  rw [Nat.div_one] at h1
  omega
theorem tick_up {v e how : Nat} : roundV (upN v e) (dnN e) how = v * 2 ^ e := by
  unfold upN dnN
  have e1 : (-(e : Int)).toNat = 0 := by omega
  have e2 : ((e : Int)).toNat = e := by omega
  rw [e1, e2, Nat.pow_zero]
  have := roundV_whole (t := v * 2 ^ e) (M := 1) (by omega) how
  rwa [Nat.mul_one] at this
theorem tick_dn {v j how : Nat} : roundV (upN v (-((j : Int) + 1))) (dnN (-((j : Int) + 1))) how = roundV v (2 ^ (j + 1)) how := by
  unfold upN dnN
  have e1 : (-(-((j : Int) + 1))).toNat = j + 1 := by omega
  have e2 : (-((j : Int) + 1)).toNat = 0 := by omega
  rw [e1, e2, Nat.pow_zero, Nat.mul_one]
theorem round_lt {v j how : Nat} (hv : v < 340282366920938463463374607431768211455) : roundV v (2 ^ (j + 1)) how < 340282366920938463463374607431768211456 := by
  have h1 := roundV_le_succ v (2 ^ (j + 1)) how
  have h2 : v / 2 ^ (j + 1) ≤ v := Nat.div_le_self _ _
  omega
end Go.Proofs.YtafboimlchjnaaaDoor
