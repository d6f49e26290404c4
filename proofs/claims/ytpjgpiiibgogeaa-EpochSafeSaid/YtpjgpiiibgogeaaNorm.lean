/- Contracts: Norm, Word of the document's numbers. -/
import Derived.Test.YtpjgpiiibgogeaaMem
namespace Go.Proofs.Ytpjgpiiibgogeaa
open Go.RowKit
set_option maxRecDepth 100000

set_option maxHeartbeats 400000 in
/-- Norm: the same number without noughts at the end; a piece of the slice. -/
theorem norm_any (w : World) (B : Nat) (A : Option Addr) (n c : Nat) (xs : List Nat) (N : Nat) (h : Own w B A n c xs) (hl : Mth.Lo xs N) :
    Calls Try.prog 114 #[.slice A n c] w fun e w' =>
      (∃ k, k ≤ n ∧ e = .returned (.slice A k c) ∧ Own w B A k c (xs.take k) ∧ Mth.Dig (xs.take k) N) ∧ w = w' := by
  have hlen := h.len
  have hle := h.le
  have hcap := h.cap
  unfold maxLen at hcap
  go_enter Try.func114, Try.ntmps114
  go_wp2
  go_loop [3] (fun i => ∃ k : Nat, k ≤ n ∧ i = .int .i64 k ∧ Mth.Lo (xs.take k) N) (fun i => (intOf i).toNat)
  case atStart => exact ⟨n, Nat.le_refl _, rfl, by rw [List.take_of_length_le (by omega)]; exact hl⟩
  case round =>
    obtain ⟨k, hk, rfl, hlo⟩ := hrel
    rcases Nat.eq_zero_or_pos k with hz | hpos
    · have hfin : (∃ j, j ≤ n ∧ Ending.returned (.slice A k c) = .returned (.slice A j c) ∧ Own w B A j c (xs.take j) ∧ Mth.Dig (xs.take j) N) :=
        ⟨k, hk, rfl, h.take hk, Mth.Dig.of_take hlo (by omega) (.inl hz)⟩
      have H := Lib.hid hfin
      clear hfin hlo hl
      subst hz
      go_wp2
      go_ret
      exact ⟨H.out, rfl⟩
    · obtain ⟨g, rfl, _, _, hcell⟩ := h.at_ (k := k - 1) (by omega)
      by_cases h0 : xs.getD (k - 1) 0 = 0
      · have hlo' : Mth.Lo (xs.take (k - 1)) N := by
          refine Mth.Lo.take_zero (n := k - 1) ?_ (by omega) h0
          rw [Nat.sub_add_cancel hpos]; exact hlo
        rw [h0] at hcell
        have H := Lib.hid hlo'
        clear hlo' hlo hl h0
        go_wp2
        go_round
        case rel => exact ⟨k - 1, by omega, by go_num, H.out⟩
        case measure => simp [intOf]; omega
      · have hfin : (∃ j, j ≤ n ∧ Ending.returned (.slice (some ⟨g, 0, none⟩) k c) = .returned (.slice (some ⟨g, 0, none⟩) j c) ∧ Own w B (some ⟨g, 0, none⟩) j c (xs.take j) ∧ Mth.Dig (xs.take j) N) :=
          ⟨k, hk, rfl, h.take hk, Mth.Dig.of_take hlo (by omega) (.inr h0)⟩
        have H := Lib.hid hfin
        generalize xs.getD (k - 1) 0 = d at hcell h0
        have hd : 1 ≤ d := by omega
        clear hfin hlo hl h0
        go_wp2
        go_ret
        exact ⟨H.out, rfl⟩
end Go.Proofs.Ytpjgpiiibgogeaa
