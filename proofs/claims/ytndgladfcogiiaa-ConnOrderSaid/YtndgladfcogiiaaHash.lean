/- Contracts: sums of bytes, by the program and by the document. -/
import Derived.Test.YtndgladfcogiiaaArg
namespace Go.Proofs.Ytndgladfcogiiaa
open Go.RowKit
set_option maxRecDepth 100000

/-- One step of a sum. -/
def stepV (h b : Nat) : Nat := (h ^^^ b) * 1099511628211 % 18446744073709551616
/-- All steps. -/
def updV (h : Nat) (l : List Nat) : Nat := l.foldl stepV h
def sumV (l : List Nat) : Nat := updV 14695981039346656037 l

theorem stepV_lt (h b : Nat) : stepV h b < 18446744073709551616 := Nat.mod_lt _ (by omega)
theorem updV_lt {h : Nat} (hh : h < 18446744073709551616) (l : List Nat) : updV h l < 18446744073709551616 := by
  unfold updV
  induction l generalizing h with
  | nil => exact hh
  | cons b l ih => exact ih (stepV_lt _ _)
theorem sumV_lt (l : List Nat) : sumV l < 18446744073709551616 := updV_lt (by omega) l
theorem updV_append (h : Nat) (l m : List Nat) : updV h (l ++ m) = updV (updV h l) m := by unfold updV; rw [List.foldl_append]
theorem updV_take (h : Nat) (l : List Nat) (k : Nat) (hk : k < l.length) : updV h (l.take (k + 1)) = stepV (updV h (l.take k)) (l.getD k 0) := by
  rw [Mth.take_succ_getD l k hk, updV_append]
  generalize updV h (l.take k) = g
  generalize l.getD k 0 = d
  unfold updV
  rw [List.foldl_cons, List.foldl_nil]

theorem xor_split (h b : Nat) (hb : b < 256) : h ^^^ b = h / 256 * 256 + (h % 256 ^^^ b) := by
  have h1 : (h ^^^ b) / 256 = h / 256 := by
    rw [show (256 : Nat) = 2 ^ 8 by rfl, ← Nat.shiftRight_eq_div_pow, ← Nat.shiftRight_eq_div_pow, Nat.shiftRight_xor_distrib]
    have : b >>> 8 = 0 := by rw [Nat.shiftRight_eq_div_pow]; exact Nat.div_eq_of_lt hb
    rw [this, Nat.xor_zero]
  have h2 : (h ^^^ b) % 256 = h % 256 ^^^ b := by
    rw [show (256 : Nat) = 2 ^ 8 by rfl, Nat.xor_mod_two_pow, Nat.mod_eq_of_lt (a := b) hb]
  have := Nat.div_add_mod (h ^^^ b) 256
  omega

theorem and_low (x : Nat) (hx : x < 18446744073709551616) : bits .and .u64 (x : Int) 4294967295 = ((x % 4294967296 : Nat) : Int) := by
  have h := u64_and_nat x 4294967295 hx (by omega)
  rw [show (4294967295 : Nat) = 2 ^ 32 - 1 by rfl, Nat.and_two_pow_sub_one_eq_mod] at h
  exact h

/-- A product modulo 2^64 out of halves. -/
theorem halves (x : Nat) : x * 1099511628211 % 18446744073709551616 =
    (x % 4294967296 * 435 + (x / 4294967296 * 435 + x % 4294967296 * 256) * 4294967296 % 18446744073709551616) % 18446744073709551616 := by omega

theorem ret_u64 {k : IntKind} {a b : Nat} (h : a = b) : Ending.returned (.int k (a : Int)) = .returned (.int k (b : Int)) := by rw [h]

def UpdInv (w : World) (h0 : Nat) (zs : List Nat) (n : Nat) (hv iv : Value) : Prop :=
  ∃ k h : Nat, k ≤ n ∧ iv = .int .i64 (k : Int) ∧ hv = .int .u64 (h : Int) ∧ h = updV h0 (zs.take k) ∧ h < 18446744073709551616 ∧ w = w

set_option maxHeartbeats 800000 in
theorem hupd_any (w : World) (B h0 : Nat) (A : Option Addr) (n c : Nat) (zs : List Nat) (hh : h0 ≤ 18446744073709551615) (h : Arg w B A n c zs) :
    Calls Try.prog 116 #[.int .u64 (h0 : Int), .slice A n c] w fun e w' => e = .returned (.int .u64 (updV h0 zs : Nat)) ∧ w = w' := by
  have hlen := h.len
  have hle := h.le
  have hcap := h.cap
  unfold maxLen at hcap
  have HLEN := Lib.hid hlen
  clear hlen
  go_enter Try.func116, Try.ntmps116
  go_wp2
  go_loop [0, 9] (fun hv iv => UpdInv w h0 zs n hv iv) (fun _ iv => n - (intOf iv).toNat)
  case atStart => exact ⟨0, h0, Nat.zero_le _, rfl, rfl, rfl, by omega, rfl⟩
  case round =>
    obtain ⟨k, hv, hk, rfl, rfl, he, hlt, _⟩ := hrel
    have HE := Lib.hid he
    clear he
    rcases Nat.lt_or_ge k n with h1 | h1
    · obtain ⟨b, off, rfl, _, hc⟩ := h.at_ (by omega)
      have hck := hc k h1
      have hd := h.lt k
      have hs := updV_take h0 zs k (by rw [HLEN.out]; exact h1)
      rw [← HE.out] at hs
      have hx := u64_xor_nat hv (zs.getD k 0) hlt (by omega)
      have hstep : stepV hv (zs.getD k 0) = (hv ^^^ zs.getD k 0) * 1099511628211 % 18446744073709551616 := by unfold stepV; rfl
      clear hc
      have hxl : hv ^^^ zs.getD k 0 < 2 ^ 64 := Nat.xor_lt_two_pow (by omega) (by omega)
      rw [hstep] at hs
      clear hstep
      generalize zs.getD k 0 = d at hck hd hs hx hxl
      generalize hv ^^^ d = x at hs hx hxl
      have HS := Lib.hid hs
      clear hs
      go_wp2
      go_round
      case rel => exact ⟨k + 1, x * 1099511628211 % 18446744073709551616, by omega, by go_num, by rw [IntKind.wrap_u64]; go_num, HS.out.symm, Nat.mod_lt _ (by omega), rfl⟩
      case measure => simp [intOf]; omega
    · obtain rfl : k = n := by omega
      go_wp2
      go_ret
      exact ⟨ret_u64 (by rw [HE.out, List.take_of_length_le (by rw [HLEN.out]; exact Nat.le_refl _)]), rfl⟩

set_option maxRecDepth 100000 in
set_option maxHeartbeats 800000 in
theorem rupd_any (w : World) (B h0 : Nat) (A : Option Addr) (n c : Nat) (zs : List Nat) (hh : h0 ≤ 18446744073709551615) (h : Arg w B A n c zs) :
    Calls Try.prog 135 #[.int .u64 (h0 : Int), .slice A n c] w fun e w' => e = .returned (.int .u64 (updV h0 zs : Nat)) ∧ w = w' := by
  have hlen := h.len
  have hle := h.le
  have hcap := h.cap
  unfold maxLen at hcap
  have HLEN := Lib.hid hlen
  clear hlen
  go_enter Try.func135, Try.ntmps135
  go_wp2
  go_loop [0, 12] (fun hv iv => UpdInv w h0 zs n hv iv) (fun _ iv => n - (intOf iv).toNat)
  case atStart => exact ⟨0, h0, Nat.zero_le _, rfl, rfl, rfl, by omega, rfl⟩
  case round =>
    obtain ⟨k, hv, hk, rfl, rfl, he, hlt, _⟩ := hrel
    have HE := Lib.hid he
    clear he
    rcases Nat.lt_or_ge k n with h1 | h1
    · obtain ⟨b, off, rfl, _, hc⟩ := h.at_ (by omega)
      have hck := hc k h1
      have hd := h.lt k
      clear hc
      have hs := updV_take h0 zs k (by rw [HLEN.out]; exact h1)
      rw [← HE.out] at hs
      unfold stepV at hs
      generalize zs.getD k 0 = d at hck hd hs
      rw [xor_split hv d hd] at hs
      have hx8 : bits .xor .u8 ((hv : Int) % 256) (d : Int) = ((hv % 256 ^^^ d : Nat) : Int) := by
        rw [show (hv : Int) % 256 = ((hv % 256 : Nat) : Int) by simp]
        exact u8_xor_nat _ _ (by omega) hd
      have hyl : hv % 256 ^^^ d < 2 ^ 8 := Nat.xor_lt_two_pow (by omega) (by omega)
      generalize hv % 256 ^^^ d = y at hs hx8 hyl
      have hxl : hv / 256 * 256 + y ≤ 18446744073709551615 := by omega
      have hand : bits .and .u64 ((hv : Int) / 256 * 256 + (y : Int)) 4294967295 = (((hv / 256 * 256 + y) % 4294967296 : Nat) : Int) := by
        rw [show (hv : Int) / 256 * 256 + (y : Int) = ((hv / 256 * 256 + y : Nat) : Int) by simp]
        exact and_low _ (by omega)
      have hshr : ((hv : Int) / 256 * 256 + (y : Int)) / 4294967296 = (((hv / 256 * 256 + y) / 4294967296 : Nat) : Int) := by
        rw [show (hv : Int) / 256 * 256 + (y : Int) = ((hv / 256 * 256 + y : Nat) : Int) by simp]
        simp
      have hb1 : 0 ≤ (hv : Int) / 256 * 256 + (y : Int) := by omega
      have hb2 : (hv : Int) / 256 * 256 + (y : Int) ≤ 18446744073709551615 := by omega
      rw [halves] at hs
      have hcl : (hv / 256 * 256 + y) % 4294967296 ≤ 4294967295 := by omega
      have hal : (hv / 256 * 256 + y) / 4294967296 ≤ 4294967295 := by omega
      generalize (hv / 256 * 256 + y) % 4294967296 = cl at hs hand hcl
      generalize (hv / 256 * 256 + y) / 4294967296 = ah at hs hshr hal
      clear hxl
      have HS := Lib.hid hs
      clear hs
      go_wp2
      go_round
      case rel => exact ⟨k + 1, (cl * 435 + (ah * 435 + cl * 256) * 4294967296 % 18446744073709551616) % 18446744073709551616, by omega, by go_num, by rw [IntKind.wrap_u64, IntKind.wrap_u64]; go_num, HS.out.symm, Nat.mod_lt _ (by omega), rfl⟩
      case measure => simp [intOf]; omega
    · obtain rfl : k = n := by omega
      go_wp2
      go_ret
      exact ⟨ret_u64 (by rw [HE.out, List.take_of_length_le (by rw [HLEN.out]; exact Nat.le_refl _)]), rfl⟩

set_option maxHeartbeats 400000 in
theorem hsum_any (w : World) (B : Nat) (A : Option Addr) (n c : Nat) (zs : List Nat) (h : Arg w B A n c zs) :
    Calls Try.prog 72 #[.slice A n c] w fun e w' => e = .returned (.int .u64 (sumV zs : Nat)) ∧ w = w' := by
  have HC := Lib.hid (hupd_any w B 14695981039346656037 A n c zs (by omega) h)
  go_enter Try.func72, Try.ntmps72
  go_wp2_with fail
  refine HC.out.mono ?_
  rintro e w1 ⟨rfl, rfl⟩
  go_wp2
  go_ret
  exact ⟨rfl, rfl⟩

set_option maxHeartbeats 400000 in
theorem rsum_any (w : World) (B : Nat) (A : Option Addr) (n c : Nat) (zs : List Nat) (h : Arg w B A n c zs) :
    Calls Try.prog 117 #[.slice A n c] w fun e w' => e = .returned (.int .u64 (sumV zs : Nat)) ∧ w = w' := by
  have HC := Lib.hid (rupd_any w B 14695981039346656037 A n c zs (by omega) h)
  go_enter Try.func117, Try.ntmps117
  go_wp2_with fail
  refine HC.out.mono ?_
  rintro e w1 ⟨rfl, rfl⟩
  go_wp2
  go_ret
  exact ⟨rfl, rfl⟩
end Go.Proofs.Ytndgladfcogiiaa
