/- The document's Check, whole. -/
import Derived.Test.YtnkecjjfbllgdaaBkV
namespace Go.Proofs.Ytnkecjjfbllgdaa
open Go.RowKit
set_option maxRecDepth 100000
set_option linter.unusedVariables false

theorem chkC_vals (l : List PolM) (op kn : Nat) (q N : Int) : chkC l op q kn N = 0 ∨ chkC l op q kn N = 1 ∨ chkC l op q kn N = 2 ∨ chkC l op q kn N = 6 := by
  unfold chkC; split; omega; split; omega; split; omega; split; omega; split <;> omega
theorem polsV_vals (l : List PolM) : polsV l = 0 ∨ polsV l = 2 ∨ polsV l = 3 := by unfold polsV; split; omega; split <;> omega
theorem leastV_zero (x : Int) : leastV x 0 = x := by unfold leastV; split <;> simp_all
theorem leastV_one (y : Int) (h : y = 0 ∨ y = 2 ∨ y = 3) : leastV 1 y = 1 := by rcases h with rfl | rfl | rfl <;> rfl
theorem leastV_two (y : Int) (h : y = 0 ∨ y = 2 ∨ y = 3) : leastV 2 y = 2 := by rcases h with rfl | rfl | rfl <;> rfl
theorem leastV_pol (x y : Int) (hx : x = 0 ∨ x = 6) (h : y = 2 ∨ y = 3) : leastV x y = y := by rcases hx with rfl | rfl <;> rcases h with rfl | rfl <;> rfl

theorem rCheck_any (w : World) (B : Nat) (A KA : Option Addr) (n c kn kc op : Nat) (l : List PolM) (q N : Int) (h : ArgC w B 4 A n c (FP l)) (hB : B ≤ w.heap.size) (hn : n ≤ 8796093022000) :
    Calls Try.prog 14 #[.slice A n c, .agg #[.int .u8 (op : Nat), .int .i64 q, .slice KA kn kc, .int .i64 N]] w (ValEnd w (.int .i64 (checkM l op q kn N))) := by
  have hln : l.length = n := by have := h.len; rw [FP_len] at this; omega
  have hpv := polsV_vals l
  have HP : Hid (∀ W, Below w.heap.size w W → Calls Try.prog 12 #[.slice A n c] W (ValEnd W (.int .i64 (polsV l)))) := Lib.hid fun W hW => rpols_any W w.heap.size A n c l ((h.more hB).below hW) hW.size hn
  unfold checkM chkC
  by_cases h0 : op < 1 ∨ 6 < op
  · rw [if_pos h0, leastV_one _ hpv]
    rcases Nat.eq_zero_or_pos op with rfl | hp
    · exact rchk_0 w q N A KA n c kn kc
    · exact rchk_7 w q N A KA n c kn kc op (decide_eq_false (by omega)) (decide_eq_true (by omega))
  rw [if_neg h0]
  by_cases h5 : op = 5 ∨ op = 6
  · rw [if_pos h5]
    rcases hpv with hz | hz
    · rw [hz] at HP ⊢
      rcases h5 with rfl | rfl
      · exact rchk_5_ok w q N A KA n c kn kc HP
      · exact rchk_6_ok w q N A KA n c kn kc HP
    · rw [leastV_pol 0 _ (.inl rfl) hz]
      have hne : (polsV l != 0) = true := by simp; omega
      rcases h5 with rfl | rfl
      · exact rchk_5_pol w q N A KA n c kn kc _ hne HP
      · exact rchk_6_pol w q N A KA n c kn kc _ hne HP
  rw [if_neg h5]
  by_cases h1 : op = 1 ∧ isTick N = false
  · rw [if_pos h1, leastV_one _ hpv]
    obtain ⟨rfl, ht⟩ := h1
    exact rchk_1_tick w q N A KA n c kn kc (Lib.hid (by rw [← ht]; exact fun w => rform_any w N))
  rw [if_neg h1]
  have HT : op = 1 → Hid (∀ w, Calls Try.prog 30 #[.int .i64 N] w fun e w' => e = .returned (.bool true) ∧ w = w') := fun e => by
    have ht : isTick N = true := by
      rcases hh : isTick N with _ | _
      · exact absurd ⟨e, hh⟩ h1
      · rfl
    exact Lib.hid (by rw [← ht]; exact fun w => rform_any w N)
  have ho : op = 1 ∨ op = 2 ∨ op = 3 ∨ op = 4 := by omega
  by_cases hk : 255 < kn
  · rw [if_pos hk, leastV_two _ hpv]
    have k1 : decide (255 < (kn : Int)) = true := decide_eq_true (by omega)
    rcases ho with rfl | rfl | rfl | rfl
    · exact rchk_1_key w q N A KA n c kn kc (HT rfl) k1
    · exact rchk_2_key w q N A KA n c kn kc k1
    · exact rchk_3_key w q N A KA n c kn kc k1
    · exact rchk_4_key w q N A KA n c kn kc k1
  rw [if_neg hk]
  have k1 : decide (255 < (kn : Int)) = false := decide_eq_false (by omega)
  rcases (show (polsV l = 2 ∨ polsV l = 3) ∨ polsV l = 0 by omega) with hz | hz
  · have hne : (polsV l != 0) = true := by simp; omega
    have hx : leastV (if q < 0 ∨ (l.length : Int) ≤ q ∨ kindB op (l.getD q.toNat noPol).kind = false then 6 else 0) (polsV l) = polsV l := leastV_pol _ _ (by split; exact .inr rfl; exact .inl rfl) hz
    rw [hx]
    rcases ho with rfl | rfl | rfl | rfl
    · exact rchk_1_pol w q N A KA n c kn kc _ (HT rfl) k1 hne HP
    · exact rchk_2_pol w q N A KA n c kn kc _ k1 hne HP
    · exact rchk_3_pol w q N A KA n c kn kc _ k1 hne HP
    · exact rchk_4_pol w q N A KA n c kn kc _ k1 hne HP
  rw [hz] at HP ⊢
  rw [leastV_zero]
  by_cases hq : q < 0
  · rw [if_pos (.inl hq)]
    have q1 : decide (q < 0) = true := decide_eq_true hq
    rcases ho with rfl | rfl | rfl | rfl
    · exact rchk_1_neg w q N A KA n c kn kc (HT rfl) k1 q1 HP
    · exact rchk_2_neg w q N A KA n c kn kc k1 q1 HP
    · exact rchk_3_neg w q N A KA n c kn kc k1 q1 HP
    · exact rchk_4_neg w q N A KA n c kn kc k1 q1 HP
  have q1 : decide (q < 0) = false := decide_eq_false hq
  by_cases hq2 : (l.length : Int) ≤ q
  · rw [if_pos (.inr (.inl hq2))]
    have q2 : decide ((n : Int) ≤ q) = true := decide_eq_true (by omega)
    rcases ho with rfl | rfl | rfl | rfl
    · exact rchk_1_big w q N A KA n c kn kc (HT rfl) k1 q1 q2 HP
    · exact rchk_2_big w q N A KA n c kn kc k1 q1 q2 HP
    · exact rchk_3_big w q N A KA n c kn kc k1 q1 q2 HP
    · exact rchk_4_big w q N A KA n c kn kc k1 q1 q2 HP
  obtain ⟨i, rfl⟩ : ∃ i : Nat, q = (i : Int) := ⟨q.toNat, by omega⟩
  have hi : i < n := by omega
  obtain ⟨b, off, rfl, hb, hc⟩ := FP_head h hi
  have hbl : b < w.heap.size := Nat.lt_of_lt_of_le hb hB
  rw [Int.toNat_natCast]
  have q2 : decide ((n : Int) ≤ (i : Int)) = false := decide_eq_false (by omega)
  have q3 : (0 : Int) ≤ (i : Int) := by omega
  have q4 : (i : Int) < (n : Int) := by omega
  have q5 : decide (n ≤ i) = false := decide_eq_false (by omega)
  generalize (l.getD i noPol).kind = kd at hc ⊢
  rcases hkb : kindB op kd with _ | _
  · rw [if_pos (.inr (.inr rfl))]
    rcases ho with rfl | rfl | rfl | rfl
    · exact rchk_1_false w N KA n c kn kc b off i kd (HT rfl) k1 q1 q2 q3 q4 q5 hi hbl hc (by have : ¬ kd = 1 := of_decide_eq_false hkb; simp; omega) (Lib.hid wants_1) HP
    · exact rchk_2_false w N KA n c kn kc b off i kd k1 q1 q2 q3 q4 q5 hi hbl hc (by have : ¬ kd = 2 := of_decide_eq_false hkb; simp; omega) (Lib.hid wants_2) HP
    · exact rchk_3_false w N KA n c kn kc b off i kd k1 q1 q2 q3 q4 q5 hi hbl hc (by have : ¬ kd = 2 := of_decide_eq_false hkb; simp; omega) (Lib.hid wants_3) HP
    · cases hkb
  · rw [if_neg (by rintro (hh | hh | hh); exact hq hh; exact hq2 hh; cases hh)]
    rcases ho with rfl | rfl | rfl | rfl
    · exact rchk_1_true w N KA n c kn kc b off i kd (HT rfl) k1 q1 q2 q3 q4 q5 hi hbl hc (by have : kd = 1 := of_decide_eq_true hkb; simp; omega) (Lib.hid wants_1) HP
    · exact rchk_2_true w N KA n c kn kc b off i kd k1 q1 q2 q3 q4 q5 hi hbl hc (by have : kd = 2 := of_decide_eq_true hkb; simp; omega) (Lib.hid wants_2) HP
    · exact rchk_3_true w N KA n c kn kc b off i kd k1 q1 q2 q3 q4 q5 hi hbl hc (by have : kd = 2 := of_decide_eq_true hkb; simp; omega) (Lib.hid wants_3) HP
    · exact rchk_4_true w N _ KA n c kn kc i k1 q1 q2 q3 q4 q5 hi (Lib.hid wants_4) HP
end Go.Proofs.Ytnkecjjfbllgdaa
