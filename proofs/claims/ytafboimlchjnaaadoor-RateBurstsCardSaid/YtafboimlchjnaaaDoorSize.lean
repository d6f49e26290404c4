/- Contract: Size of the document's numbers. -/
import Derived.Test.YtafboimlchjnaaaDoorWord
namespace Go.Proofs.YtafboimlchjnaaaDoor
open Go.RowKit
set_option maxRecDepth 100000

/-- How many bits a number has. -/
def bits (N : Nat) : Nat := if N = 0 then 0 else Nat.log2 N + 1

theorem bits_zero : bits 0 = 0 := rfl
theorem bits_lt (N : Nat) : N < 2 ^ bits N := by
  unfold bits; split
  · omega
  · exact Nat.lt_log2_self
theorem bits_le {N : Nat} (h : 0 < N) : 0 < bits N ∧ 2 ^ (bits N - 1) ≤ N := by
  unfold bits; rw [if_neg (by omega)]
  exact ⟨by omega, by simpa using Nat.log2_self_le (by omega)⟩
theorem bits_of {N k : Nat} (h1 : N < 2 ^ k) (h2 : k = 0 ∨ 2 ^ (k - 1) ≤ N) : bits N = k := by
  rcases Nat.eq_zero_or_pos N with rfl | hN
  · rcases h2 with h2 | h2
    · rw [h2]; rfl
    · have := Nat.pow_pos (a := 2) (n := k - 1) (by omega); omega
  · obtain ⟨a, b⟩ := bits_le hN
    have c := bits_lt N
    rcases Nat.lt_trichotomy (bits N) k with h | h | h
    · have : 2 ^ bits N ≤ 2 ^ (k - 1) := Nat.pow_le_pow_right (by omega) (by omega)
      omega
    · exact h
    · have : 2 ^ k ≤ 2 ^ (bits N - 1) := Nat.pow_le_pow_right (by omega) (by omega)
      omega

theorem pow32 (k : Nat) : 4294967296 ^ k = 2 ^ (32 * k) := by
  rw [Nat.pow_mul]

/-- The number's bits out of its last digit's. -/
theorem bits_top {xs : List Nat} {N k : Nat} (h : Mth.Lo xs N) (hp : 0 < xs.length) (h1 : xs.getD (xs.length - 1) 0 < 2 ^ k) (h2 : k = 0 ∨ 2 ^ (k - 1) ≤ xs.getD (xs.length - 1) 0) (hk : 0 < k) :
    bits N = 32 * (xs.length - 1) + k := by
  generalize hl : xs.length - 1 = l at *
  have e := Mth.take_succ_getD xs l (by omega)
  rw [show l + 1 = xs.length by omega, List.take_length] at e
  generalize xs.getD l 0 = d at *
  have hv := h.2
  rw [e, Mth.val_snoc, List.length_take, Nat.min_eq_left (by omega)] at hv
  have hlt := Mth.val_lt (l := xs.take l) (fun x hx => h.1 x (List.mem_of_mem_take hx))
  rw [List.length_take, Nat.min_eq_left (by omega)] at hlt
  rw [pow32] at hv hlt
  refine bits_of ?_ (.inr ?_)
  · rw [Nat.pow_add]
    have : 2 ^ (32 * l) * (d + 1) ≤ 2 ^ (32 * l) * 2 ^ k := Nat.mul_le_mul_left _ h1
    rw [Nat.mul_add] at this
    omega
  · rw [show 32 * l + k - 1 = 32 * l + (k - 1) by omega, Nat.pow_add]
    have : 2 ^ (32 * l) * 2 ^ (k - 1) ≤ 2 ^ (32 * l) * d := Nat.mul_le_mul_left _ (by omega)
    omega

theorem div_pow_succ (d k : Nat) : d / 2 ^ (k + 1) = d / 2 ^ k / 2 := by rw [Nat.pow_succ, Nat.div_div_eq_div_mul]

theorem lt_pow_of_div {d k : Nat} (h : d / 2 ^ k = 0) : d < 2 ^ k := by
  have hp := Nat.pow_pos (a := 2) (n := k) (by omega)
  exact (Nat.div_eq_zero_iff_lt hp).1 h
theorem pow_le_of_div {d k : Nat} (h : 0 < d / 2 ^ k) : 2 ^ k ≤ d := by
  have hp := Nat.pow_pos (a := 2) (n := k) (by omega)
  rcases Nat.lt_or_ge d (2 ^ k) with h' | h'
  · rw [Nat.div_eq_of_lt h'] at h; omega
  · exact h'

def SizeInv (d n : Nat) (nv xv : Value) : Prop :=
  ∃ k x : Nat, nv = .int .i64 (32 * ((n : Int) - 1) + k) ∧ xv = .int .u64 (x : Int) ∧ x = d / 2 ^ k ∧ k ≤ 64 ∧ (k = 0 ∨ 2 ^ (k - 1) ≤ d)

set_option maxHeartbeats 800000 in
theorem size_any (w : World) (A : Option Addr) (n c : Nat) (xs : List Nat) (N : Nat) (h : Num w A n c xs N) (hn : n ≤ 1048576) :
    Calls Tryd.prog 102 #[.slice A n c] w fun e w' => e = .returned (.int .i64 (bits N : Nat)) ∧ w = w' := by
  have hlen := h.own.len
  have hle := h.own.le
  rcases Nat.eq_zero_or_pos n with h0 | h0
  · have hN : bits N = 0 := by
      have : xs = [] := List.eq_nil_of_length_eq_zero (by omega)
      rw [h.dig.zero_iff.1 this]; rfl
    have HN := Lib.hid hN
    clear hN h hlen hle
    subst h0
    go_enter Tryd.func102, Tryd.ntmps102
    go_wp2
    go_ret
    exact ⟨ret_int (by rw [HN.out]; rfl), rfl⟩
  · obtain ⟨g, rfl, _, _, hc⟩ := h.own.at_ (k := n - 1) (by omega)
    have hd0 : xs.getD (n - 1) 0 ≠ 0 := by
      have h1 := h.dig.2
      intro e
      apply h1
      rw [List.getLast?_eq_getElem?, hlen, List.getElem?_eq_getElem (by omega)]
      rw [List.getD_eq_getElem?_getD, List.getElem?_eq_getElem (by omega)] at e
      simpa using e
    have hdl := getD_lt xs h.dig.1.1 (n - 1)
    have hbt : ∀ k, xs.getD (n - 1) 0 < 2 ^ k → 2 ^ (k - 1) ≤ xs.getD (n - 1) 0 → 0 < k → bits N = 32 * (n - 1) + k := by
      intro k h1 h2 h3
      have := bits_top (k := k) h.dig.1 (by omega) (by rw [hlen]; exact h1) (.inr (by rw [hlen]; exact h2)) h3
      rw [hlen] at this
      exact this
    generalize xs.getD (n - 1) 0 = d at hc hd0 hdl hbt
    have HBT := Lib.hid hbt
    clear hbt h hlen
    go_enter Tryd.func102, Tryd.ntmps102
    go_wp2
    go_loop [3, 4] (fun nv xv => SizeInv d n nv xv) (fun _ xv => (intOf xv).toNat)
    case atStart => exact ⟨0, d, by simp, rfl, by simp, by omega, .inl rfl⟩
    case round =>
      obtain ⟨k, x, rfl, rfl, hx, hk, hk2⟩ := hrel
      rcases Nat.eq_zero_or_pos x with hx0 | hx0
      · have hlt := lt_pow_of_div (d := d) (k := k) (by omega)
        have hkp : 0 < k := by
          rcases Nat.eq_zero_or_pos k with rfl | hk
          · simp at hlt; omega
          · exact hk
        have hfin := HBT.out k hlt (hk2.resolve_left (by omega)) hkp
        have HF := Lib.hid hfin
        clear hfin hlt hk2 hx
        subst hx0
        go_wp2
        go_ret
        exact ⟨ret_int (by rw [HF.out]; omega), rfl⟩
      · have hp := pow_le_of_div (d := d) (k := k) (by omega)
        have hk31 : k ≤ 31 := by
          rcases Nat.lt_or_ge 31 k with h | h
          · have : 2 ^ 32 ≤ 2 ^ k := Nat.pow_le_pow_right (by omega) (by omega)
            omega
          · exact h
        have hs : x / 2 = d / 2 ^ (k + 1) := by rw [div_pow_succ, hx]
        have hxl : x ≤ 4294967295 := by have := Nat.div_le_self d (2 ^ k); omega
        have HS := Lib.hid hs
        have HP := Lib.hid hp
        clear hs hp hx hk2
        go_wp2
        go_round
        case rel => exact ⟨k + 1, x / 2, by go_num, by go_num, HS.out, by omega, .inr (by simpa using HP.out)⟩
        case measure => simp [intOf]; omega
end Go.Proofs.YtafboimlchjnaaaDoor
