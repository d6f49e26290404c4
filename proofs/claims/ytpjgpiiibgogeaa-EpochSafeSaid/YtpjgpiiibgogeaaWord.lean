/- Contracts: Word, Fits, Held of the document's numbers. -/
import Derived.Test.YtpjgpiiibgogeaaNorm
namespace Go.Proofs.Ytpjgpiiibgogeaa
open Go.RowKit
set_option maxRecDepth 100000

theorem own_pair (w : World) (m : Nat) :
    Own (w.alloc (.cells #[.int .u64 ((m : Int) % 4294967296), .int .u64 ((m : Int) / 4294967296)] 120)) w.heap.size (some ⟨w.heap.size, 0, none⟩) 2 2 [m % 4294967296, m / 4294967296] := by
  have h := World.ownsRow_lit (base := w.heap.size) (e := 120) (size := 1) w #[.int .u64 ((m : Int) % 4294967296), .int .u64 ((m : Int) / 4294967296)] 2 (Nat.le_refl _) (by unfold maxLen; omega) rfl
  unfold Own
  have e : [m % 4294967296, m / 4294967296].map U = [.int .u64 ((m : Int) % 4294967296), .int .u64 ((m : Int) / 4294967296)] := by
    simp [U]
  rw [e]
  exact h

theorem lo_pair (m : Nat) (hm : m < 18446744073709551616) : Mth.Lo [m % 4294967296, m / 4294967296] m := by
  refine ⟨fun d hd => ?_, ?_⟩
  · simp at hd; omega
  · simp [Mth.val]; omega

set_option maxHeartbeats 400000 in
theorem word_any (w : World) (m : Nat) (hm : m ≤ 18446744073709551615) :
    Calls Try.prog 95 #[.int .u64 (m : Int)] w (NumEnd w m 2) := by
  have ho := own_pair w m
  have hl := lo_pair m (by omega)
  have HO := Lib.hid ho
  have HL := Lib.hid hl
  clear ho hl
  go_enter Try.func95, Try.ntmps95
  go_wp2_with fail
  refine (norm_any _ w.heap.size _ 2 2 _ m HO.out HL.out).mono ?_
  rintro e w' ⟨⟨k, hk, rfl, hown, hd⟩, rfl⟩
  have HW : Hid (NumEnd w m 2 (.returned (.slice (some ⟨w.heap.size, 0, none⟩) k 2)) (w.alloc (.cells #[.int .u64 ((m : Int) % 4294967296), .int .u64 ((m : Int) / 4294967296)] 120))) :=
    ⟨_, _, _, _, rfl, ⟨hown.mono (Nat.zero_le _), hd⟩, hk, (Below.refl _ _).alloc (Nat.le_refl _) _⟩
  clear hown hd HO HL
  go_wp2
  go_ret
  exact HW.out

theorem drop_pred (xs : List Nat) (k : Nat) (h0 : 0 < k) (hk : k ≤ xs.length) : Mth.val (xs.drop (k - 1)) = xs.getD (k - 1) 0 + 4294967296 * Mth.val (xs.drop k) := by
  have h : xs.drop (k - 1) = xs.getD (k - 1) 0 :: xs.drop k := by
    rw [List.drop_eq_getElem_cons (by omega), Nat.sub_add_cancel h0]
    simp [List.getD_eq_getElem?_getD, show k - 1 < xs.length by omega]
  rw [h]; rfl

theorem val_drop_small (xs : List Nat) (hx : ∀ d ∈ xs, d < 4294967296) (k : Nat) (h : xs.length ≤ k + 1) : Mth.val (xs.drop k) < 4294967296 := by
  have h1 := Mth.val_lt (l := xs.drop k) (fun d hd => hx d (List.mem_of_mem_drop hd))
  have h2 : 4294967296 ^ (xs.drop k).length ≤ 4294967296 ^ 1 := Nat.pow_le_pow_right (by omega) (by rw [List.length_drop]; omega)
  omega

theorem getD_lt (xs : List Nat) (hx : ∀ d ∈ xs, d < 4294967296) (k : Nat) : xs.getD k 0 < 4294967296 := by
  rcases Nat.lt_or_ge k xs.length with h | h
  · rw [List.getD_eq_getElem?_getD, List.getElem?_eq_getElem h]
    exact hx _ (List.getElem_mem h)
  · rw [List.getD_eq_getElem?_getD, List.getElem?_eq_none h]
    simp

set_option maxHeartbeats 400000 in
theorem fits_small (w : World) (B : Nat) (A : Option Addr) (n c : Nat) (xs : List Nat) (N : Nat) (h : Own w B A n c xs) (hl : Mth.Lo xs N) (hn : n ≤ 2) :
    Calls Try.prog 113 #[.slice A n c] w fun e w' => e = .returned (.tuple #[.int .u64 (N : Int), .bool true]) ∧ w = w' := by
  have hlen := h.len
  go_enter Try.func113, Try.ntmps113
  go_wp2
  go_loop [4, 5] (fun v i => ∃ k : Nat, k ≤ n ∧ i = .int .i64 ((k : Int) - 1) ∧ v = .int .u64 (Mth.val (xs.drop k) : Nat)) (fun _ i => (intOf i + 1).toNat)
  case atStart => exact ⟨n, Nat.le_refl _, rfl, by rw [List.drop_of_length_le (by omega)]; rfl⟩
  case round =>
    obtain ⟨k, hk, rfl, rfl⟩ := hrel
    rcases Nat.eq_zero_or_pos k with hz | hpos
    · have H := Lib.hid hl.2
      clear hl
      subst hz
      go_wp2
      go_ret2
      exact ⟨ret_ib (by have e := H.out; rw [e]) (by simp; omega), rfl⟩
    · obtain ⟨g, rfl, _, _, hcell⟩ := h.at_ (k := k - 1) (by omega)
      have hv := drop_pred xs k hpos (by omega)
      have hs := val_drop_small xs hl.1 k (by omega)
      have hd := getD_lt xs hl.1 (k - 1)
      have HV := Lib.hid hv
      have HL := Lib.hid hl
      clear hv hl
      generalize hdd : xs.getD (k - 1) 0 = d at hcell hd
      have HD := Lib.hid hdd
      clear hdd
      generalize hvv : Mth.val (xs.drop k) = v at hs
      have HVV := Lib.hid hvv
      clear hvv
      go_wp2
      go_round
      case rel => exact ⟨k - 1, by omega, by go_num, by rw [HV.out, HD.out, HVV.out]; go_num⟩
      case measure => simp [intOf]; omega

set_option maxHeartbeats 400000 in
theorem fits_big (w : World) (B : Nat) (A : Option Addr) (n c : Nat) (xs : List Nat) (h : Own w B A n c xs) (hn : 3 ≤ n) :
    Calls Try.prog 113 #[.slice A n c] w fun e w' => (∃ v, e = .returned (.tuple #[.int .u64 v, .bool false])) ∧ w = w' := by
  have hlen := h.len
  have hle := h.le
  have hcap := h.cap
  unfold maxLen at hcap
  go_enter Try.func113, Try.ntmps113
  go_wp2
  go_loop [4, 5] (fun v i => ∃ k : Nat, k ≤ n ∧ i = .int .i64 ((k : Int) - 1) ∧ ∃ x, v = .int .u64 x) (fun _ i => (intOf i + 1).toNat)
  case atStart => exact ⟨n, Nat.le_refl _, rfl, _, rfl⟩
  case round =>
    obtain ⟨k, hk, rfl, x, rfl⟩ := hrel
    rcases Nat.eq_zero_or_pos k with hz | hpos
    · subst hz
      go_wp2
      go_ret2
      exact ⟨⟨_, ret_ib rfl (by simp; omega)⟩, rfl⟩
    · obtain ⟨g, rfl, _, _, hcell⟩ := h.at_ (k := k - 1) (by omega)
      generalize xs.getD (k - 1) 0 = d at hcell
      go_wp2
      go_round
      case rel => exact ⟨k - 1, by omega, by go_num, _, rfl⟩
      case measure => simp [intOf]; omega

/-- The lesser of a number and the greatest tick. -/
def heldV (N : Nat) : Int := if N ≤ 4611686018427387903 then (N : Int) else 4611686018427387903

theorem heldV_le {N : Nat} (h : N ≤ 4611686018427387903) : heldV N = (N : Int) := by unfold heldV; rw [if_pos h]
theorem heldV_gt {N : Nat} (h : 4611686018427387904 ≤ N) : heldV N = 4611686018427387903 := by unfold heldV; rw [if_neg (by omega)]

set_option maxHeartbeats 400000 in
theorem held_any (w : World) (A : Option Addr) (n c : Nat) (xs : List Nat) (N : Nat) (h : Num w A n c xs N) :
    Calls Try.prog 93 #[.slice A n c] w fun e w' => e = .returned (.int .i64 (heldV N)) ∧ w = w' := by
  have hlen := h.own.len
  have hle := h.own.le
  have hcap := h.own.cap
  unfold maxLen at hcap
  rcases Nat.lt_or_ge 2 n with hn | hn
  · have hN : 4611686018427387904 ≤ N := by
      have h1 := h.dig.pos (by intro e; rw [e] at hlen; simp at hlen; omega)
      have h2 : 4294967296 ^ 2 ≤ 4294967296 ^ (xs.length - 1) := Nat.pow_le_pow_right (by omega) (by omega)
      omega
    have HE := Lib.hid (heldV_gt hN)
    have HN := Lib.hid h
    clear hN h
    go_enter Try.func93, Try.ntmps93
    go_wp2_with fail
    refine (fits_big _ 0 _ _ _ _ HN.out.own (by omega)).mono ?_
    rintro e w' ⟨⟨v, rfl⟩, rfl⟩
    go_wp2
    go_ret
    exact ⟨by rw [HE.out]; rfl, rfl⟩
  · have hlt : N < 18446744073709551616 := by
      have h1 := h.dig.1.lt
      have h2 : 4294967296 ^ xs.length ≤ 4294967296 ^ 2 := Nat.pow_le_pow_right (by omega) (by omega)
      omega
    have HN := Lib.hid h
    clear h
    by_cases hx : N ≤ 4611686018427387903
    · have HE := Lib.hid (heldV_le hx)
      go_enter Try.func93, Try.ntmps93
      go_wp2_with fail
      refine (fits_small _ 0 _ _ _ _ N HN.out.own HN.out.dig.1 hn).mono ?_
      rintro e w' ⟨rfl, rfl⟩
      go_wp2
      go_ret
      exact ⟨by rw [HE.out]; rfl, rfl⟩
    · have HE := Lib.hid (heldV_gt (N := N) (by omega))
      have hx' : 4611686018427387903 < N := by omega
      clear hx
      go_enter Try.func93, Try.ntmps93
      go_wp2_with fail
      refine (fits_small _ 0 _ _ _ _ N HN.out.own HN.out.dig.1 hn).mono ?_
      rintro e w' ⟨rfl, rfl⟩
      go_wp2
      go_ret
      exact ⟨by rw [HE.out]; rfl, rfl⟩
end Go.Proofs.Ytpjgpiiibgogeaa
