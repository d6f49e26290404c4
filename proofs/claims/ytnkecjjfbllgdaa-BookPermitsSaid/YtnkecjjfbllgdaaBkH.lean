/- The error of a call, whole; least; Check. -/
import Derived.Test.YtnkecjjfbllgdaaBkG
namespace Go.Proofs.Ytnkecjjfbllgdaa
open Go.RowKit
set_option maxRecDepth 100000
set_option linter.unusedVariables false

def chkC (l : List PolM) (op : Nat) (q : Int) (kn : Nat) (N : Int) : Int :=
  if op < 1 ∨ 6 < op then 1 else if op = 5 ∨ op = 6 then 0 else if op = 1 ∧ isTick N = false then 1 else if 255 < kn then 2
  else if q < 0 ∨ (l.length : Int) ≤ q ∨ kindB op (l.getD q.toNat noPol).kind = false then 6 else 0

theorem FP_head {w : World} {B n c : Nat} {A : Option Addr} {l : List PolM} (h : ArgC w B 4 A n c (FP l)) {i : Nat} (hi : i < n) :
    ∃ b off, A = some ⟨b, off, none⟩ ∧ b < B ∧ w.cell? ⟨b, off + i * 4, none⟩ = some (.int .u8 ((l.getD i noPol).kind : Nat)) := by
  have hln : l.length = n := by have := h.len; rw [FP_len] at this; omega
  obtain ⟨b, off, e, hb, hc⟩ := h.at_ (by omega)
  exact ⟨b, off, e, hb, (hc (i * 4) (by omega)).trans (FP_at l i 0 (by omega) (by omega))⟩

theorem checkCall_any (w : World) (B : Nat) (A KA : Option Addr) (n c kn kc op : Nat) (l : List PolM) (q N : Int) (h : ArgC w B 4 A n c (FP l)) (hB : B ≤ w.heap.size) :
    Calls Try.prog 29 #[.slice A n c, .agg #[.int .u8 (op : Nat), .int .i64 q, .slice KA kn kc, .int .i64 N]] w (ValEnd w (.int .i64 (chkC l op q kn N))) := by
  have hln : l.length = n := by have := h.len; rw [FP_len] at this; omega
  unfold chkC
  by_cases h0 : op < 1 ∨ 6 < op
  · rw [if_pos h0]
    rcases Nat.eq_zero_or_pos op with rfl | hp
    · exact chk_0 w q N A KA n c kn kc
    · exact chk_7 w q N A KA n c kn kc op (decide_eq_false (by omega)) (decide_eq_true (by omega))
  rw [if_neg h0]
  by_cases h5 : op = 5 ∨ op = 6
  · rw [if_pos h5]
    rcases h5 with rfl | rfl
    · exact chk_5 w q N A KA n c kn kc
    · exact chk_6 w q N A KA n c kn kc
  rw [if_neg h5]
  by_cases h1 : op = 1 ∧ isTick N = false
  · rw [if_pos h1]
    obtain ⟨rfl, ht⟩ := h1
    exact chk_1_tick w q N A KA n c kn kc (Lib.hid (by rw [← ht]; exact fun w => bTick_any w N))
  rw [if_neg h1]
  have HT : op = 1 → Hid (∀ w, Calls Try.prog 47 #[.int .i64 N] w fun e w' => e = .returned (.bool true) ∧ w = w') := fun e => by
    have ht : isTick N = true := by
      rcases hh : isTick N with _ | _
      · exact absurd ⟨e, hh⟩ h1
      · rfl
    exact Lib.hid (by rw [← ht]; exact fun w => bTick_any w N)
  have ho : op = 1 ∨ op = 2 ∨ op = 3 ∨ op = 4 := by omega
  by_cases hk : 255 < kn
  · rw [if_pos hk]
    have k1 : decide (255 < (kn : Int)) = true := decide_eq_true (by omega)
    rcases ho with rfl | rfl | rfl | rfl
    · exact chk_1_key w q N A KA n c kn kc (HT rfl) k1
    · exact chk_2_key w q N A KA n c kn kc k1
    · exact chk_3_key w q N A KA n c kn kc k1
    · exact chk_4_key w q N A KA n c kn kc k1
  rw [if_neg hk]
  have k1 : decide (255 < (kn : Int)) = false := decide_eq_false (by omega)
  by_cases hq : q < 0
  · rw [if_pos (.inl hq)]
    have q1 : decide (q < 0) = true := decide_eq_true hq
    rcases ho with rfl | rfl | rfl | rfl
    · exact chk_1_neg w q N A KA n c kn kc (HT rfl) k1 q1
    · exact chk_2_neg w q N A KA n c kn kc k1 q1
    · exact chk_3_neg w q N A KA n c kn kc k1 q1
    · exact chk_4_neg w q N A KA n c kn kc k1 q1
  have q1 : decide (q < 0) = false := decide_eq_false hq
  by_cases hq2 : (l.length : Int) ≤ q
  · rw [if_pos (.inr (.inl hq2))]
    have q2 : decide ((n : Int) ≤ q) = true := decide_eq_true (by omega)
    rcases ho with rfl | rfl | rfl | rfl
    · exact chk_1_big w q N A KA n c kn kc (HT rfl) k1 q1 q2
    · exact chk_2_big w q N A KA n c kn kc k1 q1 q2
    · exact chk_3_big w q N A KA n c kn kc k1 q1 q2
    · exact chk_4_big w q N A KA n c kn kc k1 q1 q2
  obtain ⟨i, rfl⟩ : ∃ i : Nat, q = (i : Int) := ⟨q.toNat, by omega⟩
  have hi : i < n := by omega
  obtain ⟨b, off, rfl, hb, hc⟩ := FP_head h hi
  have hbl : b < w.heap.size := Nat.lt_of_lt_of_le hb hB
  rw [Int.toNat_natCast]
  have q2 : decide ((n : Int) ≤ (i : Int)) = false := decide_eq_false (by omega)
  have q3 : (0 : Int) ≤ (i : Int) := by omega
  have q4 : (i : Int) < (n : Int) := by omega
  have q5 : decide (n ≤ i) = false := decide_eq_false (by omega)
  generalize (l.getD i noPol).kind = kd at hc ⊢
  rcases hkb : kindB op kd with _ | _
  · rw [if_pos (.inr (.inr rfl))]
    rcases ho with rfl | rfl | rfl | rfl
    · exact chk_1_false w N KA n c kn kc b off i kd (HT rfl) k1 q1 q2 q3 q4 q5 hi hbl hc (Lib.hid (by rw [← hkb]; exact fun w => isKind_1 w kd))
    · exact chk_2_false w N KA n c kn kc b off i kd k1 q1 q2 q3 q4 q5 hi hbl hc (Lib.hid (by rw [← hkb]; exact fun w => isKind_2 w kd))
    · exact chk_3_false w N KA n c kn kc b off i kd k1 q1 q2 q3 q4 q5 hi hbl hc (Lib.hid (by rw [← hkb]; exact fun w => isKind_3 w kd))
    · exact chk_4_false w N KA n c kn kc b off i kd k1 q1 q2 q3 q4 q5 hi hbl hc (Lib.hid (by rw [← hkb]; exact fun w => isKind_4 w kd))
  · rw [if_neg (by rintro (hh | hh | hh); exact hq hh; exact hq2 hh; cases hh)]
    rcases ho with rfl | rfl | rfl | rfl
    · exact chk_1_true w N KA n c kn kc b off i kd (HT rfl) k1 q1 q2 q3 q4 q5 hi hbl hc (Lib.hid (by rw [← hkb]; exact fun w => isKind_1 w kd))
    · exact chk_2_true w N KA n c kn kc b off i kd k1 q1 q2 q3 q4 q5 hi hbl hc (Lib.hid (by rw [← hkb]; exact fun w => isKind_2 w kd))
    · exact chk_3_true w N KA n c kn kc b off i kd k1 q1 q2 q3 q4 q5 hi hbl hc (Lib.hid (by rw [← hkb]; exact fun w => isKind_3 w kd))
    · exact chk_4_true w N KA n c kn kc b off i kd k1 q1 q2 q3 q4 q5 hi hbl hc (Lib.hid (by rw [← hkb]; exact fun w => isKind_4 w kd))
theorem chkC_ge {l : List PolM} {op kn : Nat} {q N : Int} : 0 ≤ chkC l op q kn N := by
  unfold chkC; split; omega; split; omega; split; omega; split; omega; split <;> omega
theorem polsV_ge {l : List PolM} : 0 ≤ polsV l := by unfold polsV; split; omega; split <;> omega

/-- The least of two errors; 0 is none. -/
def leastV (a b : Int) : Int := if a = 0 then b else if b = 0 then a else if b < a then b else a
end Go.Proofs.Ytnkecjjfbllgdaa
