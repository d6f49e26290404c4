/- Contracts: what a nil shard answers, the program's and the document's. -/
import Derived.Test.YtpjgpiiibgogeaaPkS
namespace Go.Proofs.Ytpjgpiiibgogeaa
open Go.RowKit
set_option maxRecDepth 100000
set_option linter.unusedVariables false

/-- The error of what is handed to Start, but for the shard. -/
def rightV (who : Int) (op n : Nat) (x : Int) : Nat :=
  if inB who 64 = false ∨ op < 1 ∨ 4 < op ∨ ((op = 2 ∨ op = 3) ∧ isTick x = false) then 1 else if 256 < n then 2 else 0
def nilV (who : Int) (op n : Nat) (x : Int) : Nat := if rightV who op n x = 0 then 7 else rightV who op n x

set_option maxHeartbeats 1600000 in
theorem right_w0 (w : World) (who : Int) (op : Nat) (A : Option Addr) (n c : Nat) (x : Int) (h : who < 0) :
    Calls Try.prog 68 #[.int .i64 who, .int .u8 (op : Int), .slice A n c, .int .i64 x] w fun e w' => e = .returned (.int .i64 1) ∧ w = w' := by
  go_enter Try.func68, Try.ntmps68
  go_wp2
  go_ret
  exact ⟨rfl, rfl⟩

set_option maxHeartbeats 1600000 in
theorem right_w1 (w : World) (who : Int) (op : Nat) (A : Option Addr) (n c : Nat) (x : Int) (h : 63 < who) :
    Calls Try.prog 68 #[.int .i64 who, .int .u8 (op : Int), .slice A n c, .int .i64 x] w fun e w' => e = .returned (.int .i64 1) ∧ w = w' := by
  have d0 : ¬ who < 0 := by omega
  go_enter Try.func68, Try.ntmps68
  go_wp2
  go_ret
  exact ⟨rfl, rfl⟩

set_option maxHeartbeats 1600000 in
theorem right_o0 (w : World) (who : Int) (op : Nat) (A : Option Addr) (n c : Nat) (x : Int) (h0 : 0 ≤ who) (h1 : who ≤ 63) (h : op < 1) :
    Calls Try.prog 68 #[.int .i64 who, .int .u8 (op : Int), .slice A n c, .int .i64 x] w fun e w' => e = .returned (.int .i64 1) ∧ w = w' := by
  have d0 : ¬ who < 0 := by omega
  have d1 : ¬ (63 : Int) < who := by omega
  have d2 : (op : Int) < 1 := by omega
  go_enter Try.func68, Try.ntmps68
  go_wp2
  go_ret
  exact ⟨rfl, rfl⟩

set_option maxHeartbeats 1600000 in
theorem right_o5 (w : World) (who : Int) (op : Nat) (A : Option Addr) (n c : Nat) (x : Int) (h0 : 0 ≤ who) (h1 : who ≤ 63) (h : 4 < op) :
    Calls Try.prog 68 #[.int .i64 who, .int .u8 (op : Int), .slice A n c, .int .i64 x] w fun e w' => e = .returned (.int .i64 1) ∧ w = w' := by
  have d0 : ¬ who < 0 := by omega
  have d1 : ¬ (63 : Int) < who := by omega
  have d2 : ¬ (op : Int) < 1 := by omega
  have d3 : (4 : Int) < (op : Int) := by omega
  go_enter Try.func68, Try.ntmps68
  go_wp2
  go_ret
  exact ⟨rfl, rfl⟩

set_option maxHeartbeats 1600000 in
theorem right_tick_a (w : World) (who : Int) (op : Nat) (A : Option Addr) (n c : Nat) (x : Int) (h0 : 0 ≤ who) (h1 : who ≤ 63) (ho : op = 2) (hx : isTick x = false) :
    Calls Try.prog 68 #[.int .i64 who, .int .u8 (op : Int), .slice A n c, .int .i64 x] w fun e w' => e = .returned (.int .i64 1) ∧ w = w' := by
  have d0 : ¬ who < 0 := by omega
  have d1 : ¬ (63 : Int) < who := by omega
  have d2 : ¬ (op : Int) < 1 := by omega
  have d3 : ¬ (4 : Int) < (op : Int) := by omega
  have q2 : ((op : Int) == 2) = true := by simp [ho]
  have HF := Lib.hid (rform_any w x)
  rw [hx] at HF
  clear ho hx
  go_enter Try.func68, Try.ntmps68
  go_wp2_with fail
  with_reducible refine HF.out.mono ?_
  rintro e w1 ⟨rfl, hw⟩
  subst hw
  go_wp2
  go_ret
  exact ⟨rfl, rfl⟩

set_option maxHeartbeats 1600000 in
theorem right_tick_b (w : World) (who : Int) (op : Nat) (A : Option Addr) (n c : Nat) (x : Int) (h0 : 0 ≤ who) (h1 : who ≤ 63) (ho : op = 3) (hx : isTick x = false) :
    Calls Try.prog 68 #[.int .i64 who, .int .u8 (op : Int), .slice A n c, .int .i64 x] w fun e w' => e = .returned (.int .i64 1) ∧ w = w' := by
  have d0 : ¬ who < 0 := by omega
  have d1 : ¬ (63 : Int) < who := by omega
  have d2 : ¬ (op : Int) < 1 := by omega
  have d3 : ¬ (4 : Int) < (op : Int) := by omega
  have q2 : ((op : Int) == 2) = false := by simp [ho]
  have q3 : ((op : Int) == 3) = true := by simp [ho]
  have HF := Lib.hid (rform_any w x)
  rw [hx] at HF
  clear ho hx
  go_enter Try.func68, Try.ntmps68
  go_wp2_with fail
  with_reducible refine HF.out.mono ?_
  rintro e w1 ⟨rfl, hw⟩
  subst hw
  go_wp2
  go_ret
  exact ⟨rfl, rfl⟩

set_option maxHeartbeats 1600000 in
theorem right_long_a (w : World) (who : Int) (op : Nat) (A : Option Addr) (n c : Nat) (x : Int) (h0 : 0 ≤ who) (h1 : who ≤ 63) (ho : op = 2) (hx : isTick x = true) (hn : 256 < n) :
    Calls Try.prog 68 #[.int .i64 who, .int .u8 (op : Int), .slice A n c, .int .i64 x] w fun e w' => e = .returned (.int .i64 2) ∧ w = w' := by
  have d4 : (256 : Int) < (n : Int) := by omega
  have d0 : ¬ who < 0 := by omega
  have d1 : ¬ (63 : Int) < who := by omega
  have d2 : ¬ (op : Int) < 1 := by omega
  have d3 : ¬ (4 : Int) < (op : Int) := by omega
  have q2 : ((op : Int) == 2) = true := by simp [ho]
  have HF := Lib.hid (rform_any w x)
  rw [hx] at HF
  clear ho hx
  go_enter Try.func68, Try.ntmps68
  go_wp2_with fail
  with_reducible refine HF.out.mono ?_
  rintro e w1 ⟨rfl, hw⟩
  subst hw
  go_wp2
  go_ret
  exact ⟨rfl, rfl⟩

set_option maxHeartbeats 1600000 in
theorem right_ok_a (w : World) (who : Int) (op : Nat) (A : Option Addr) (n c : Nat) (x : Int) (h0 : 0 ≤ who) (h1 : who ≤ 63) (ho : op = 2) (hx : isTick x = true) (hn : n ≤ 256) :
    Calls Try.prog 68 #[.int .i64 who, .int .u8 (op : Int), .slice A n c, .int .i64 x] w fun e w' => e = .returned (.int .i64 0) ∧ w = w' := by
  have d4 : ¬ (256 : Int) < (n : Int) := by omega
  have d0 : ¬ who < 0 := by omega
  have d1 : ¬ (63 : Int) < who := by omega
  have d2 : ¬ (op : Int) < 1 := by omega
  have d3 : ¬ (4 : Int) < (op : Int) := by omega
  have q2 : ((op : Int) == 2) = true := by simp [ho]
  have HF := Lib.hid (rform_any w x)
  rw [hx] at HF
  clear ho hx
  go_enter Try.func68, Try.ntmps68
  go_wp2_with fail
  with_reducible refine HF.out.mono ?_
  rintro e w1 ⟨rfl, hw⟩
  subst hw
  go_wp2
  go_ret
  exact ⟨rfl, rfl⟩

set_option maxHeartbeats 1600000 in
theorem right_long_b (w : World) (who : Int) (op : Nat) (A : Option Addr) (n c : Nat) (x : Int) (h0 : 0 ≤ who) (h1 : who ≤ 63) (ho : op = 3) (hx : isTick x = true) (hn : 256 < n) :
    Calls Try.prog 68 #[.int .i64 who, .int .u8 (op : Int), .slice A n c, .int .i64 x] w fun e w' => e = .returned (.int .i64 2) ∧ w = w' := by
  have d4 : (256 : Int) < (n : Int) := by omega
  have d0 : ¬ who < 0 := by omega
  have d1 : ¬ (63 : Int) < who := by omega
  have d2 : ¬ (op : Int) < 1 := by omega
  have d3 : ¬ (4 : Int) < (op : Int) := by omega
  have q2 : ((op : Int) == 2) = false := by simp [ho]
  have q3 : ((op : Int) == 3) = true := by simp [ho]
  have HF := Lib.hid (rform_any w x)
  rw [hx] at HF
  clear ho hx
  go_enter Try.func68, Try.ntmps68
  go_wp2_with fail
  with_reducible refine HF.out.mono ?_
  rintro e w1 ⟨rfl, hw⟩
  subst hw
  go_wp2
  go_ret
  exact ⟨rfl, rfl⟩

set_option maxHeartbeats 1600000 in
theorem right_ok_b (w : World) (who : Int) (op : Nat) (A : Option Addr) (n c : Nat) (x : Int) (h0 : 0 ≤ who) (h1 : who ≤ 63) (ho : op = 3) (hx : isTick x = true) (hn : n ≤ 256) :
    Calls Try.prog 68 #[.int .i64 who, .int .u8 (op : Int), .slice A n c, .int .i64 x] w fun e w' => e = .returned (.int .i64 0) ∧ w = w' := by
  have d4 : ¬ (256 : Int) < (n : Int) := by omega
  have d0 : ¬ who < 0 := by omega
  have d1 : ¬ (63 : Int) < who := by omega
  have d2 : ¬ (op : Int) < 1 := by omega
  have d3 : ¬ (4 : Int) < (op : Int) := by omega
  have q2 : ((op : Int) == 2) = false := by simp [ho]
  have q3 : ((op : Int) == 3) = true := by simp [ho]
  have HF := Lib.hid (rform_any w x)
  rw [hx] at HF
  clear ho hx
  go_enter Try.func68, Try.ntmps68
  go_wp2_with fail
  with_reducible refine HF.out.mono ?_
  rintro e w1 ⟨rfl, hw⟩
  subst hw
  go_wp2
  go_ret
  exact ⟨rfl, rfl⟩

set_option maxHeartbeats 1600000 in
theorem right_long_c (w : World) (who : Int) (op : Nat) (A : Option Addr) (n c : Nat) (x : Int) (h0 : 0 ≤ who) (h1 : who ≤ 63) (ho : op = 1 ∨ op = 4) (hn : 256 < n) :
    Calls Try.prog 68 #[.int .i64 who, .int .u8 (op : Int), .slice A n c, .int .i64 x] w fun e w' => e = .returned (.int .i64 2) ∧ w = w' := by
  have d4 : (256 : Int) < (n : Int) := by omega
  have d0 : ¬ who < 0 := by omega
  have d1 : ¬ (63 : Int) < who := by omega
  have d2 : ¬ (op : Int) < 1 := by omega
  have d3 : ¬ (4 : Int) < (op : Int) := by omega
  have q2 : ((op : Int) == 2) = false := by simp; omega
  have q3 : ((op : Int) == 3) = false := by simp; omega
  clear ho
  go_enter Try.func68, Try.ntmps68
  go_wp2
  go_ret
  exact ⟨rfl, rfl⟩

set_option maxHeartbeats 1600000 in
theorem right_ok_c (w : World) (who : Int) (op : Nat) (A : Option Addr) (n c : Nat) (x : Int) (h0 : 0 ≤ who) (h1 : who ≤ 63) (ho : op = 1 ∨ op = 4) (hn : n ≤ 256) :
    Calls Try.prog 68 #[.int .i64 who, .int .u8 (op : Int), .slice A n c, .int .i64 x] w fun e w' => e = .returned (.int .i64 0) ∧ w = w' := by
  have d4 : ¬ (256 : Int) < (n : Int) := by omega
  have d0 : ¬ who < 0 := by omega
  have d1 : ¬ (63 : Int) < who := by omega
  have d2 : ¬ (op : Int) < 1 := by omega
  have d3 : ¬ (4 : Int) < (op : Int) := by omega
  have q2 : ((op : Int) == 2) = false := by simp; omega
  have q3 : ((op : Int) == 3) = false := by simp; omega
  clear ho
  go_enter Try.func68, Try.ntmps68
  go_wp2
  go_ret
  exact ⟨rfl, rfl⟩

theorem inB_no {who : Int} (h : inB who 64 = false) : who < 0 ∨ 63 < who := by
  unfold inB at h; simp at h; omega
theorem right_any (w : World) (who : Int) (op : Nat) (A : Option Addr) (n c : Nat) (x : Int) :
    Calls Try.prog 68 #[.int .i64 who, .int .u8 (op : Int), .slice A n c, .int .i64 x] w fun e w' => e = .returned (.int .i64 (rightV who op n x : Nat)) ∧ w = w' := by
  have e1 : (inB who 64 = false ∨ op < 1 ∨ 4 < op ∨ ((op = 2 ∨ op = 3) ∧ isTick x = false)) → ((rightV who op n x : Nat) : Int) = 1 := fun h => by unfold rightV; rw [if_pos h]; rfl
  have e2 : ¬ (inB who 64 = false ∨ op < 1 ∨ 4 < op ∨ ((op = 2 ∨ op = 3) ∧ isTick x = false)) → 256 < n → ((rightV who op n x : Nat) : Int) = 2 := fun h h2 => by unfold rightV; rw [if_neg h, if_pos h2]; rfl
  have e0 : ¬ (inB who 64 = false ∨ op < 1 ∨ 4 < op ∨ ((op = 2 ∨ op = 3) ∧ isTick x = false)) → n ≤ 256 → ((rightV who op n x : Nat) : Int) = 0 := fun h h2 => by unfold rightV; rw [if_neg h, if_neg (by omega)]; rfl
  rcases hb : inB who 64 with _ | _
  · rw [e1 (.inl hb)]
    rcases inB_no hb with h | h
    · exact right_w0 w who op A n c x h
    · exact right_w1 w who op A n c x h
  · have hw := inB_iff.mp hb
    rcases Nat.lt_or_ge op 1 with h | h
    · rw [e1 (.inr (.inl h))]; exact right_o0 w who op A n c x hw.1 (by omega) h
    · rcases Nat.lt_or_ge 4 op with h4 | h4
      · rw [e1 (.inr (.inr (.inl h4)))]; exact right_o5 w who op A n c x hw.1 (by omega) h4
      · rcases (by omega : op = 2 ∨ op = 3 ∨ (op = 1 ∨ op = 4)) with e | e | e
        · rcases ht : isTick x with _ | _
          · rw [e1 (.inr (.inr (.inr ⟨.inl e, ht⟩)))]; exact right_tick_a w who op A n c x hw.1 (by omega) e ht
          · have hn : ¬ (inB who 64 = false ∨ op < 1 ∨ 4 < op ∨ ((op = 2 ∨ op = 3) ∧ isTick x = false)) := by rw [hb, ht]; simp; omega
            rcases Nat.lt_or_ge 256 n with hl | hl
            · rw [e2 hn hl]; exact right_long_a w who op A n c x hw.1 (by omega) e ht hl
            · rw [e0 hn hl]; exact right_ok_a w who op A n c x hw.1 (by omega) e ht hl
        · rcases ht : isTick x with _ | _
          · rw [e1 (.inr (.inr (.inr ⟨.inr e, ht⟩)))]; exact right_tick_b w who op A n c x hw.1 (by omega) e ht
          · have hn : ¬ (inB who 64 = false ∨ op < 1 ∨ 4 < op ∨ ((op = 2 ∨ op = 3) ∧ isTick x = false)) := by rw [hb, ht]; simp; omega
            rcases Nat.lt_or_ge 256 n with hl | hl
            · rw [e2 hn hl]; exact right_long_b w who op A n c x hw.1 (by omega) e ht hl
            · rw [e0 hn hl]; exact right_ok_b w who op A n c x hw.1 (by omega) e ht hl
        · have hn : ¬ (inB who 64 = false ∨ op < 1 ∨ 4 < op ∨ ((op = 2 ∨ op = 3) ∧ isTick x = false)) := by rw [hb]; simp; omega
          rcases Nat.lt_or_ge 256 n with hl | hl
          · rw [e2 hn hl]; exact right_long_c w who op A n c x hw.1 (by omega) e hl
          · rw [e0 hn hl]; exact right_ok_c w who op A n c x hw.1 (by omega) e hl
theorem rightV_cases (who : Int) (op n : Nat) (x : Int) : (rightV who op n x = 1 ∧ (inB who 64 = false ∨ op < 1 ∨ 4 < op ∨ ((op = 2 ∨ op = 3) ∧ isTick x = false))) ∨ (rightV who op n x = 2 ∧ inB who 64 = true ∧ 1 ≤ op ∧ op ≤ 4 ∧ (op = 2 ∨ op = 3 → isTick x = true) ∧ 256 < n) ∨ (rightV who op n x = 0 ∧ inB who 64 = true ∧ 1 ≤ op ∧ op ≤ 4 ∧ (op = 2 ∨ op = 3 → isTick x = true) ∧ n ≤ 256) := by
  unfold rightV
  by_cases h : inB who 64 = false ∨ op < 1 ∨ 4 < op ∨ ((op = 2 ∨ op = 3) ∧ isTick x = false)
  · exact .inl ⟨if_pos h, h⟩
  · rw [if_neg h]
    have h2 : inB who 64 = true ∧ 1 ≤ op ∧ op ≤ 4 ∧ (op = 2 ∨ op = 3 → isTick x = true) := by
      refine ⟨?_, ?_, ?_, fun ho => ?_⟩
      · cases hb : inB who 64 with
        | true => rfl
        | false => exact absurd (.inl hb) h
      · rcases Nat.lt_or_ge op 1 with h1 | h1
        · exact absurd (.inr (.inl h1)) h
        · exact h1
      · rcases Nat.lt_or_ge 4 op with h1 | h1
        · exact absurd (.inr (.inr (.inl h1))) h
        · exact h1
      · cases ht : isTick x with
        | true => rfl
        | false => exact absurd (.inr (.inr (.inr ⟨ho, ht⟩))) h
    rcases Nat.lt_or_ge 256 n with hl | hl
    · rw [if_pos hl]; exact .inr (.inl ⟨rfl, h2.1, h2.2.1, h2.2.2.1, h2.2.2.2, hl⟩)
    · rw [if_neg (by omega)]; exact .inr (.inr ⟨rfl, h2.1, h2.2.1, h2.2.2.1, h2.2.2.2, hl⟩)
/-- What is wrong with what was handed in, the program answers so too, of any shard. -/
theorem start_wrong (w : World) (p : Value) (who : Int) (op : Nat) (A : Option Addr) (n c : Nat) (x : Int) (h : rightV who op n x ≠ 0) :
    Calls Try.prog 36 #[p, .int .i64 who, .int .u8 (op : Int), .slice A n c, .int .i64 x] w fun e w' => e = .returned (.int .i64 (rightV who op n x : Nat)) ∧ w = w' := by
  rcases rightV_cases who op n x with ⟨e, hc⟩ | ⟨e, hb, h1, h4, ht, hn⟩ | ⟨e, _⟩
  · rw [e]
    rcases hb : inB who 64 with _ | _
    · exact start_who w p who op A n c x hb
    · rcases hc with hc | hc | hc | ⟨hc, ht⟩
      · rw [hc] at hb; cases hb
      · exact start_op0 w p who op A n c x hb hc
      · exact start_op5 w p who op A n c x hb hc
      · rcases hc with hc | hc
        · exact start_tick_a w p who op A n c x hb hc ht
        · exact start_tick_b w p who op A n c x hb hc ht
  · rw [e]
    rcases (by omega : op = 2 ∨ op = 3 ∨ (op = 1 ∨ op = 4)) with h | h | h
    · exact start_long_a w p who op A n c x hb h (ht (.inl h)) hn
    · exact start_long_b w p who op A n c x hb h (ht (.inr h)) hn
    · exact start_long_c w p who op A n c x hb h hn
  · exact absurd e h
theorem start_nilS (w : World) (who : Int) (op : Nat) (A : Option Addr) (n c : Nat) (x : Int) :
    Calls Try.prog 36 #[.pointer none, .int .i64 who, .int .u8 (op : Int), .slice A n c, .int .i64 x] w fun e w' => e = .returned (.int .i64 (nilV who op n x : Nat)) ∧ w = w' := by
  by_cases h0 : rightV who op n x = 0
  · have e : nilV who op n x = 7 := if_pos h0
    rw [e]
    rcases rightV_cases who op n x with ⟨e, _⟩ | ⟨e, _⟩ | ⟨e, hb, h1, h4, ht, hn⟩
    · omega
    · omega
    · rcases (by omega : op = 2 ∨ op = 3 ∨ (op = 1 ∨ op = 4)) with h | h | h
      · exact start_nil_a w who op A n c x hb h (ht (.inl h)) hn
      · exact start_nil_b w who op A n c x hb h (ht (.inr h)) hn
      · exact start_nil_c w who op A n c x hb h hn
  · have e : nilV who op n x = rightV who op n x := if_neg h0
    rw [e]
    exact start_wrong w _ who op A n c x h0
theorem docStart_nil (w : World) (who : Int) (op : Nat) (A : Option Addr) (n c : Nat) (x : Int) :
    Calls Try.prog 37 #[.pointer none, .int .i64 who, .int .u8 (op : Int), .slice A n c, .int .i64 x] w fun e w' => e = .returned (.int .i64 (nilV who op n x : Nat)) ∧ w = w' := by
  have HR := Lib.hid (right_any w who op A n c x)
  by_cases h0 : rightV who op n x = 0
  · have e : nilV who op n x = 7 := if_pos h0
    rw [e]
    rw [h0] at HR
    clear h0 e
    go_enter Try.func37, Try.ntmps37
    go_wp2_with fail
    with_reducible refine HR.out.mono ?_
    rintro e w1 ⟨rfl, hw⟩
    subst hw
    go_wp2
    go_ret
    exact ⟨rfl, rfl⟩
  · have e : nilV who op n x = rightV who op n x := if_neg h0
    rw [e]
    have h0' : ¬ ((rightV who op n x : Nat) : Int) = 0 := by omega
    clear h0 e
    generalize rightV who op n x = r at *
    go_enter Try.func37, Try.ntmps37
    go_wp2_with fail
    with_reducible refine HR.out.mono ?_
    rintro e w1 ⟨rfl, hw⟩
    subst hw
    go_wp2
    go_ret
    exact ⟨rfl, rfl⟩
def stepNilV (who : Int) : Int := if inB who 64 = true then 7 else 1
theorem step_nilS (w : World) (who : Int) : Calls Try.prog 39 #[.pointer none, .int .i64 who] w fun e w' => e = .returned (.tuple #[.agg #[.bool false, .int .i64 0, .int .i64 0], .int .i64 (stepNilV who)]) ∧ Below w.heap.size w w' := by
  rcases hb : inB who 64 with _ | _
  · rw [show stepNilV who = 1 by unfold stepNilV; rw [hb]; rfl]; exact step_bad w _ who hb
  · rw [show stepNilV who = 7 by unfold stepNilV; rw [hb]; rfl]; exact step_none w _ who hb (Lib.hid (fun w' _ => sPend_nil w' who))
theorem docStep_nil (w : World) (who : Int) : Calls Try.prog 40 #[.pointer none, .int .i64 who] w fun e w' => e = .returned (.tuple #[.agg #[.bool false, .int .i64 0, .int .i64 0], .int .i64 (stepNilV who)]) ∧ Below w.heap.size w w' := by
  rcases hb : inB who 64 with _ | _
  · rw [show stepNilV who = 1 by unfold stepNilV; rw [hb]; rfl]
    rcases inB_no hb with h | h
    · clear hb
      go_enter Try.func40, Try.ntmps40
      go_wp2
      exact bodyPost_ret (v := .tuple #[.agg #[.bool false, .int .i64 0, .int .i64 0], .int .i64 1]) (by simp [results, Try.results40, go_sem]) rfl ⟨rfl, (Below.refl w.heap.size w).alloc (Nat.le_refl _) _⟩
    · have d0 : ¬ who < 0 := by omega
      clear hb
      go_enter Try.func40, Try.ntmps40
      go_wp2
      exact bodyPost_ret (v := .tuple #[.agg #[.bool false, .int .i64 0, .int .i64 0], .int .i64 1]) (by simp [results, Try.results40, go_sem]) rfl ⟨rfl, (Below.refl w.heap.size w).alloc (Nat.le_refl _) _⟩
  · rw [show stepNilV who = 7 by unfold stepNilV; rw [hb]; rfl]
    have hw := inB_iff.mp hb
    have d0 : ¬ who < 0 := by omega
    have d1 : ¬ (63 : Int) < who := by omega
    clear hb hw
    go_enter Try.func40, Try.ntmps40
    go_wp2
    exact bodyPost_ret (v := .tuple #[.agg #[.bool false, .int .i64 0, .int .i64 0], .int .i64 7]) (by simp [results, Try.results40, go_sem]) rfl ⟨rfl, (Below.refl w.heap.size w).alloc (Nat.le_refl _) _⟩
theorem entries_nil (w : World) : Calls Try.prog 42 #[.pointer none] w fun e w' => e = .returned (.slice none 0 0) ∧ w = w' := by
  go_enter Try.func42, Try.ntmps42
  go_wp2
  go_ret
  exact ⟨rfl, rfl⟩
end Go.Proofs.Ytpjgpiiibgogeaa
