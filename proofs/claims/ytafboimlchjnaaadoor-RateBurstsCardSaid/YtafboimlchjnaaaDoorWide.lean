/- Contracts of package wide: numbers of 128 bits: left, right, next, Tick. -/
import Derived.Test.YtafboimlchjnaaaDoorWMath
import Derived.WalkArith
import Derived.Laws.Shifts
import Derived.Handy
namespace Go.Proofs.YtafboimlchjnaaaDoor
open Go.RowKit
set_option maxRecDepth 100000

/-- Hi and Lo of a number below 2^128, as a value. -/
def W2 (v : Nat) : Value := .agg #[.int .u64 ((v / 18446744073709551616 : Nat) : Int), .int .u64 ((v % 18446744073709551616 : Nat) : Int)]
def W2End (w : World) (v : Nat) (e : Ending) (w' : World) : Prop := e = .returned (W2 v) ∧ Below w.heap.size w w'

theorem W2_of {v a b : Nat} (h1 : v / 18446744073709551616 = a) (h2 : v % 18446744073709551616 = b) : W2 v = .agg #[.int .u64 (a : Int), .int .u64 (b : Int)] := by unfold W2; rw [h1, h2]
theorem two_below (w : World) (o o' : Obj) : Below w.heap.size w ((w.alloc o).alloc o') := (((Below.refl _ _).alloc (Nat.le_refl _) _).alloc (by simp) _)

set_option maxHeartbeats 400000 in
theorem right_any (w : World) (v k : Nat) (hv : v < 340282366920938463463374607431768211456) (hk' : k ≤ 4096) :
    Calls Tryd.prog 84 #[W2 v, .int .u64 (k : Int)] w (W2End w (v / 2 ^ k)) := by
  obtain ⟨hi, hhi⟩ : ∃ hi, hi = v / 18446744073709551616 := ⟨_, rfl⟩
  obtain ⟨lo, hlo⟩ : ∃ lo, lo = v % 18446744073709551616 := ⟨_, rfl⟩
  have ev : v = hi * 18446744073709551616 + lo := by omega
  have h1 : hi < 18446744073709551616 := by omega
  have h2 : lo < 18446744073709551616 := by omega
  rw [W2_of hhi.symm hlo.symm, ev]
  clear hv hhi hlo ev
  rcases Nat.lt_or_ge k 64 with hk | hk
  · have HV := Lib.hid (W2_of (right_hi1 hi lo k h2) (right_lo1 hi lo k h2 (by omega)))
    have k0 : (0 : Int) ≤ 64 - (k : Int) := by omega
    have q0 : decide ((64 : Int) ≤ (k : Int)) = false := decide_eq_false (by omega)
    have HO := Lib.hid (cast_or (lo / 2 ^ k) (hi * 2 ^ (64 - k) % 18446744073709551616) (Nat.lt_of_le_of_lt (Nat.div_le_self _ _) h2) (by omega))
    go_enter Tryd.func84, Tryd.ntmps84
    go_wp2
    simp only [cast_div, cast_shl]
    rw [HO.out]
    exact bodyPost_ret (v := .agg #[.int .u64 ((hi / 2 ^ k : Nat) : Int), .int .u64 ((lo / 2 ^ k ||| hi * 2 ^ (64 - k) % 18446744073709551616 : Nat) : Int)]) (by simp [results, Tryd.results84, go_sem]) rfl ⟨by rw [HV.out], two_below _ _ _⟩
  · have q0 : decide ((64 : Int) ≤ (k : Int)) = true := decide_eq_true (by omega)
    have k0 : (0 : Int) ≤ (k : Int) - 64 := by omega
    have HV : Hid (W2 ((hi * 18446744073709551616 + lo) / 2 ^ k) = .agg #[.int .u64 0, .int .u64 ((hi / 2 ^ (k - 64) : Nat) : Int)]) := Lib.hid (by
      rw [right_lo2 hi lo k h2 hk]
      have : hi / 2 ^ (k - 64) ≤ hi := Nat.div_le_self _ _
      exact W2_of (a := 0) (Nat.div_eq_of_lt (by omega)) (Nat.mod_eq_of_lt (by omega)))
    rcases Nat.lt_or_ge 128 k with hb | hb
    · have HM : Hid ((hi : Int) / 2 ^ min ((k : Int) - 64).toNat IntKind.u64.bits = ((hi / 2 ^ (k - 64) : Nat) : Int)) := Lib.hid (by
        rw [show min ((k : Int) - 64).toNat IntKind.u64.bits = 64 from Nat.min_eq_right (by show 64 ≤ _; omega), cast_div, big_zero h1 (by omega), big_zero h1 (by omega)])
      go_enter Tryd.func84, Tryd.ntmps84
      go_wp2
      rw [shift_shr_any _ _ _ _ k0, HM.out]
      simp only [Sem.run_pure, Result.andThen]
      rw [Oper.upon_value]
      go_wp2
      exact bodyPost_ret (v := .agg #[.int .u64 0, .int .u64 ((hi / 2 ^ (k - 64) : Nat) : Int)]) (by simp [results, Tryd.results84, go_sem]) rfl ⟨by rw [HV.out], two_below _ _ _⟩
    · go_enter Tryd.func84, Tryd.ntmps84
      go_wp2
      simp only [cast_div]
      exact bodyPost_ret (v := .agg #[.int .u64 0, .int .u64 ((hi / 2 ^ (k - 64) : Nat) : Int)]) (by simp [results, Tryd.results84, go_sem]) rfl ⟨by rw [HV.out], two_below _ _ _⟩

set_option maxHeartbeats 400000 in
theorem left_w (w : World) (v k : Nat) (hv : v < 340282366920938463463374607431768211456) (hk' : k ≤ 4096) :
    Calls Tryd.prog 83 #[W2 v, .int .u64 (k : Int)] w (W2End w (shl2 v k)) := by
  obtain ⟨hi, hhi⟩ : ∃ hi, hi = v / 18446744073709551616 := ⟨_, rfl⟩
  obtain ⟨lo, hlo⟩ : ∃ lo, lo = v % 18446744073709551616 := ⟨_, rfl⟩
  have ev : v = hi * 18446744073709551616 + lo := by omega
  have h1 : hi < 18446744073709551616 := by omega
  have h2 : lo < 18446744073709551616 := by omega
  rw [W2_of hhi.symm hlo.symm, ev]
  clear hv hhi hlo ev
  rcases Nat.lt_or_ge k 64 with hk | hk
  · have HV := Lib.hid (W2_of (shl2_hi hi lo k h2 (by omega)) (shl2_lo hi lo k))
    have k0 : (0 : Int) ≤ 64 - (k : Int) := by omega
    have q0 : decide ((64 : Int) ≤ (k : Int)) = false := decide_eq_false (by omega)
    have HO := Lib.hid (cast_or (hi * 2 ^ k % 18446744073709551616) (lo / 2 ^ (64 - k)) (by omega) (Nat.lt_of_le_of_lt (Nat.div_le_self _ _) h2))
    go_enter Tryd.func83, Tryd.ntmps83
    go_wp2
    simp only [cast_div, cast_shl]
    rw [HO.out]
    exact bodyPost_ret (v := .agg #[.int .u64 ((hi * 2 ^ k % 18446744073709551616 ||| lo / 2 ^ (64 - k) : Nat) : Int), .int .u64 ((lo * 2 ^ k % 18446744073709551616 : Nat) : Int)]) (by simp [results, Tryd.results83, go_sem]) rfl ⟨by rw [HV.out], two_below _ _ _⟩
  · have q0 : decide ((64 : Int) ≤ (k : Int)) = true := decide_eq_true (by omega)
    have k0 : (0 : Int) ≤ (k : Int) - 64 := by omega
    have HV : Hid (W2 (shl2 (hi * 18446744073709551616 + lo) k) = .agg #[.int .u64 ((lo * 2 ^ (k - 64) % 18446744073709551616 : Nat) : Int), .int .u64 0]) := Lib.hid (by
      rw [shl2_big hi lo k hk]
      exact W2_of (b := 0) (by omega) (by omega))
    rcases Nat.lt_or_ge 128 k with hb | hb
    · have HM : Hid (IntKind.u64.wrap ((lo : Int) * 2 ^ min ((k : Int) - 64).toNat IntKind.u64.bits) = ((lo * 2 ^ (k - 64) % 18446744073709551616 : Nat) : Int)) := Lib.hid (by
        rw [show min ((k : Int) - 64).toNat IntKind.u64.bits = 64 from Nat.min_eq_right (by show 64 ≤ _; omega), cast_shl, big_shl (by omega), big_shl (by omega)])
      go_enter Tryd.func83, Tryd.ntmps83
      go_wp2
      rw [shift_shl_any _ _ _ _ k0, HM.out]
      simp only [Sem.run_pure, Result.andThen]
      rw [Oper.upon_value]
      go_wp2
      exact bodyPost_ret (v := .agg #[.int .u64 ((lo * 2 ^ (k - 64) % 18446744073709551616 : Nat) : Int), .int .u64 0]) (by simp [results, Tryd.results83, go_sem]) rfl ⟨by rw [HV.out], two_below _ _ _⟩
    · go_enter Tryd.func83, Tryd.ntmps83
      go_wp2
      simp only [cast_shl]
      exact bodyPost_ret (v := .agg #[.int .u64 ((lo * 2 ^ (k - 64) % 18446744073709551616 : Nat) : Int), .int .u64 0]) (by simp [results, Tryd.results83, go_sem]) rfl ⟨by rw [HV.out], two_below _ _ _⟩

set_option maxHeartbeats 400000 in
theorem tick_w (w : World) (v : Nat) (hv : v < 340282366920938463463374607431768211456) :
    Calls Tryd.prog 61 #[W2 v] w fun e w' => e = .returned (if v ≤ 4611686018427387903 then .tuple #[.int .i64 (v : Int), .bool true] else .tuple #[.int .i64 0, .bool false]) ∧ Below w.heap.size w w' := by
  obtain ⟨hi, hhi⟩ : ∃ hi, hi = v / 18446744073709551616 := ⟨_, rfl⟩
  obtain ⟨lo, hlo⟩ : ∃ lo, lo = v % 18446744073709551616 := ⟨_, rfl⟩
  rw [W2_of hhi.symm hlo.symm]
  by_cases h0 : 0 < hi
  · have HI : Hid ((if v ≤ 4611686018427387903 then Value.tuple #[.int .i64 (v : Int), .bool true] else .tuple #[.int .i64 0, .bool false]) = .tuple #[.int .i64 0, .bool false]) := Lib.hid (if_neg (by omega))
    rw [HI.out]
    have q0 : decide ((0 : Int) < (hi : Int)) = true := decide_eq_true (by omega)
    have q1 : decide (0 < hi) = true := decide_eq_true (by omega)
    clear hhi hlo HI hv h0
    go_enter Tryd.func61, Tryd.ntmps61
    go_wp2
    go_ret2
    exact ⟨rfl, (Below.refl _ _).alloc (Nat.le_refl _) _⟩
  · have q0 : decide ((0 : Int) < (hi : Int)) = false := decide_eq_false (by omega)
    have q0' : decide (0 < hi) = false := decide_eq_false (by omega)
    by_cases h1 : 4611686018427387903 < v
    · have q1 : decide ((4611686018427387903 : Int) < (lo : Int)) = true := decide_eq_true (by omega)
      have HI : Hid ((if v ≤ 4611686018427387903 then Value.tuple #[.int .i64 (v : Int), .bool true] else .tuple #[.int .i64 0, .bool false]) = .tuple #[.int .i64 0, .bool false]) := Lib.hid (if_neg (by omega))
      rw [HI.out]
      clear hhi hlo HI hv h0 h1
      go_enter Tryd.func61, Tryd.ntmps61
      go_wp2
      go_ret2
      exact ⟨rfl, (Below.refl _ _).alloc (Nat.le_refl _) _⟩
    · have q1 : decide ((4611686018427387903 : Int) < (lo : Int)) = false := decide_eq_false (by omega)
      have HI : Hid ((if v ≤ 4611686018427387903 then Value.tuple #[.int .i64 (v : Int), .bool true] else .tuple #[.int .i64 0, .bool false]) = .tuple #[.int .i64 (v : Int), .bool true]) := Lib.hid (if_pos (by omega))
      rw [HI.out]
      obtain rfl : lo = v := by omega
      have hlo2 : lo ≤ 4611686018427387903 := by omega
      clear hhi hlo HI hv h0 h1
      go_enter Tryd.func61, Tryd.ntmps61
      go_wp2
      go_ret2
      exact ⟨by rfl, (Below.refl _ _).alloc (Nat.le_refl _) _⟩
end Go.Proofs.YtafboimlchjnaaaDoor
