/- Contracts: the document's Ratio and Seconds. -/
import Derived.Test.YtafboimlchjnaaaDoorNear
import Derived.Test.YtafboimlchjnaaaDoorTick
namespace Go.Proofs.YtafboimlchjnaaaDoor
open Go.RowKit
set_option maxRecDepth 100000

theorem bits_negate {r : Nat} (h : r < 9223372036854775808) : Op.negFloat .f64 r = r + 9223372036854775808 := by
  show r ^^^ 2 ^ 63 = r + 9223372036854775808
  have e : r + 9223372036854775808 = 2 ^ 63 + r := by omega
  rw [e]
  refine Nat.eq_of_testBit_eq (fun j => ?_)
  rw [Nat.testBit_xor]
  rcases Nat.lt_trichotomy j 63 with hj | hj | hj
  · rw [Nat.testBit_two_pow_add_gt hj, Nat.testBit_two_pow_of_ne (by omega), Bool.xor_false]
  · subst hj
    rw [Nat.testBit_two_pow_add_eq, Nat.testBit_two_pow_self, Bool.xor_true]
  · have h1 : 2 ^ 64 ≤ 2 ^ j := Nat.pow_le_pow_right (by omega) (by omega)
    rw [Nat.testBit_two_pow_of_ne (by omega), Nat.testBit_lt_two_pow (by omega), Nat.testBit_lt_two_pow (by omega)]
    rfl

theorem finB_le (n : Int) (m : Nat) (mo : Bool) (h : n ≤ 50) (hm : m < 18014398509481984) : finB n m mo ≤ 5075556780046548992 := by
  unfold finB
  split <;> omega
theorem finB_ge (n : Int) (m : Nat) (mo : Bool) (h : -900 ≤ n) : 788129934789836800 ≤ finB n m mo := by
  unfold finB
  split <;> omega

theorem nearP_bd {N M : Nat} (hn : N < 2 ^ 64) (hm : M < 2 ^ 64) : -200 ≤ nearP N M ∧ nearP N M ≤ 10 := by
  have bn := bits_le_of hn
  have bm := bits_le_of hm
  unfold nearP
  omega

theorem nearB_bd {N M : Nat} (hn : N < 2 ^ 64) (hm : M < 2 ^ 64) (hN : 0 < N) (hM : 0 < M) : 788129934789836800 ≤ nearB N M ∧ nearB N M ≤ 5075556780046548992 := by
  have hp := nearP_bd hn hm
  have hs := near_size hN hM
  by_cases h : nearU N M / nearD N M < 18014398509481984
  · rw [nearB_one hN hM h rfl]
    exact ⟨finB_ge _ _ _ (by omega), finB_le _ _ _ (by omega) h⟩
  · rw [nearB_two hN hM (by omega) rfl]
    exact ⟨finB_ge _ _ _ (by omega), finB_le _ _ _ (by omega) (by omega)⟩

theorem nearB_zero (M : Nat) : nearB 0 M = 0 := by unfold nearB; rw [if_pos rfl]

/-- Bits with the sign turned. -/
def turnB (b : Nat) : Nat := if b < 9223372036854775808 then b + 9223372036854775808 else b - 9223372036854775808
/-- The bits of the document's Ratio. -/
def ratioB (a b : Int) : Nat := if a ≠ 0 ∧ decide (a < 0) ≠ decide (b < 0) then turnB (nearB a.natAbs b.natAbs) else nearB a.natAbs b.natAbs

theorem nearB_le {N M : Nat} (hn : N < 2 ^ 64) (hm : M < 2 ^ 64) (hM : 0 < M) : nearB N M ≤ 5075556780046548992 := by
  rcases Nat.eq_zero_or_pos N with rfl | hN
  · rw [nearB_zero]; omega
  · exact (nearB_bd hn hm hN hM).2

theorem neg_near {N M : Nat} (hn : N < 2 ^ 64) (hm : M < 2 ^ 64) (hM : 0 < M) : Op.negFloat .f64 (nearB N M) = turnB (nearB N M) := by
  have h := nearB_le hn hm hM
  rw [bits_negate (by omega)]
  unfold turnB
  rw [if_pos (by omega)]

def FloatEnd (w : World) (b : Nat) (e : Ending) (w' : World) : Prop := e = .returned (.float .f64 b) ∧ Below w.heap.size w w'

set_option maxRecDepth 100000 in
set_option maxHeartbeats 800000 in
theorem near3_zero (w : World) (A B : Option Addr) (n m c d : Nat) (xs : List Nat) (M : Nat) (hA : Num w A n c xs 0) :
    Calls Tryd.prog 91 #[.slice A n c, .slice B m d] w (FloatEnd w (nearB 0 M)) := by
  have h0 := (num_zero hA).2 rfl
  subst h0
  have HZ := Lib.hid (nearB_zero M)
  clear hA
  go_enter Tryd.func91, Tryd.ntmps91
  go_wp2
  go_ret
  exact ⟨ret_float (by rw [HZ.out]), Below.refl _ _⟩

theorem near3_any (w : World) (A B : Option Addr) (n m c d : Nat) (xs ys : List Nat) (N M : Nat) (hA : Num w A n c xs N) (hB : Num w B m d ys M) (hn : N < 2 ^ 64) (hm : M < 2 ^ 64) (hM : 0 < M) :
    Calls Tryd.prog 91 #[.slice A n c, .slice B m d] w (FloatEnd w (nearB N M)) := by
  rcases Nat.eq_zero_or_pos N with rfl | hN
  · exact near3_zero w A B n m c d xs M hA
  · exact near3_pos w A B n m c d xs ys N M hA hB hn hm hN hM

theorem run_negf (P : Program) (w : World) (b : Nat) : (Op.unary .neg (.float .f64 b)).run P w = .ok (.float .f64 (Op.negFloat .f64 b)) w := rfl

theorem ratioB_same {a b : Int} (h : decide (a < 0) = decide (b < 0)) : ratioB a b = nearB a.natAbs b.natAbs := by unfold ratioB; rw [if_neg (by rintro ⟨_, h2⟩; exact h2 h)]
theorem ratioB_turn {a b : Int} (h0 : a ≠ 0) (h : decide (a < 0) ≠ decide (b < 0)) : ratioB a b = turnB (nearB a.natAbs b.natAbs) := by unfold ratioB; rw [if_pos ⟨h0, h⟩]
theorem ratioB_zero (b : Int) : ratioB 0 b = 0 := by unfold ratioB; rw [if_neg (by simp)]; exact nearB_zero _

set_option maxRecDepth 100000 in
set_option maxHeartbeats 3200000 in
theorem ratio3_any (w : World) (a b : Int) (ha : -9223372036854775808 ≤ a) (ha' : a ≤ 9223372036854775807) (hb : -9223372036854775808 ≤ b) (hb' : b ≤ 9223372036854775807) (h0 : b ≠ 0) :
    Calls Tryd.prog 67 #[.int .i64 a, .int .i64 b] w (FloatEnd w (ratioB a b)) := by
  have HNG := Lib.hid (neg_near (N := a.natAbs) (M := b.natAbs) (by omega) (by omega) (by omega))
  have hn1 : a.natAbs < 2 ^ 64 := by omega
  have hn2 : b.natAbs < 2 ^ 64 := by omega
  have hn3 : 0 < b.natAbs := by omega
  have HW1 := Lib.hid (fun w => word3_any w a ha ha')
  have HW2 := Lib.hid (fun w => word3_any w b hb hb')
  by_cases hz : a = 0
  · subst hz
    have HR : Hid (ratioB 0 b = nearB (0 : Int).natAbs b.natAbs) := Lib.hid (by rw [ratioB_zero]; exact (nearB_zero _).symm)
    generalize ratioB 0 b = R at *
    go_enter Tryd.func67, Tryd.ntmps67
    go_wp2_with fail
    refine (HW1.out _).mono ?_
    rintro e w1 ⟨A1, n1, c1, xs1, rfl, hh1, hl1, hb1⟩
    have HN1 := Lib.hid hh1
    have HB1 := Lib.hid hb1
    have hz1 := hb1.size
    clear hh1 hb1
    go_wp2_with fail
    refine (HW2.out _).mono ?_
    rintro e w2 ⟨A2, n2, c2, xs2, rfl, hh2, hl2, hb2⟩
    have HN2 := Lib.hid hh2
    have HN1' := Lib.hid (HN1.out.below hb2)
    have HB2 := Lib.hid (HB1.out.trans (hb2.mono hz1))
    have hz2 := hb2.size
    clear hh2 hb2
    go_wp2_with fail
    refine (near3_any _ _ _ _ _ _ _ _ _ _ _ HN1'.out HN2.out hn1 hn2 hn3).mono ?_
    rintro e w3 ⟨rfl, hb3⟩
    have HB3 := Lib.hid (HB2.out.trans (hb3.mono (by omega)))
    clear hb3
    go_wp2
    go_ret
    exact ⟨ret_float HR.out.symm, HB3.out⟩
  · have q0 : (a != 0) = true := by simp [hz]
    by_cases h1 : a < 0
    · by_cases h2 : b < 0
      · have da := (decide_eq_true h1 : decide (a < 0) = true)
        have db := (decide_eq_true h2 : decide (b < 0) = true)
        have HR := Lib.hid (ratioB_same (a := a) (b := b) (by rw [da, db]))
        clear h0 hz
        generalize ratioB a b = R at *
        generalize a.natAbs = na at *
        generalize b.natAbs = nb at *
        go_enter Tryd.func67, Tryd.ntmps67
        go_wp2_with fail
        refine (HW1.out _).mono ?_
        rintro e w1 ⟨A1, n1, c1, xs1, rfl, hh1, hl1, hb1⟩
        have HN1 := Lib.hid hh1
        have HB1 := Lib.hid hb1
        have hz1 := hb1.size
        clear hh1 hb1
        go_wp2_with fail
        refine (HW2.out _).mono ?_
        rintro e w2 ⟨A2, n2, c2, xs2, rfl, hh2, hl2, hb2⟩
        have HN2 := Lib.hid hh2
        have HN1' := Lib.hid (HN1.out.below hb2)
        have HB2 := Lib.hid (HB1.out.trans (hb2.mono hz1))
        have hz2 := hb2.size
        clear hh2 hb2
        go_wp2_with fail
        refine (near3_any _ _ _ _ _ _ _ _ _ _ _ HN1'.out HN2.out hn1 hn2 hn3).mono ?_
        rintro e w3 ⟨rfl, hb3⟩
        have HB3 := Lib.hid (HB2.out.trans (hb3.mono (by omega)))
        clear hb3
        go_wp2
        go_ret
        exact ⟨ret_float HR.out.symm, HB3.out⟩
      · have da := (decide_eq_true h1 : decide (a < 0) = true)
        have db := (decide_eq_false (by omega) : decide (b < 0) = false)
        have HR := Lib.hid (ratioB_turn (a := a) (b := b) hz (by rw [da, db]; decide))
        clear h0 hz
        generalize ratioB a b = R at *
        generalize a.natAbs = na at *
        generalize b.natAbs = nb at *
        go_enter Tryd.func67, Tryd.ntmps67
        go_wp2_with fail
        refine (HW1.out _).mono ?_
        rintro e w1 ⟨A1, n1, c1, xs1, rfl, hh1, hl1, hb1⟩
        have HN1 := Lib.hid hh1
        have HB1 := Lib.hid hb1
        have hz1 := hb1.size
        clear hh1 hb1
        go_wp2_with fail
        refine (HW2.out _).mono ?_
        rintro e w2 ⟨A2, n2, c2, xs2, rfl, hh2, hl2, hb2⟩
        have HN2 := Lib.hid hh2
        have HN1' := Lib.hid (HN1.out.below hb2)
        have HB2 := Lib.hid (HB1.out.trans (hb2.mono hz1))
        have hz2 := hb2.size
        clear hh2 hb2
        go_wp2_with fail
        refine (near3_any _ _ _ _ _ _ _ _ _ _ _ HN1'.out HN2.out hn1 hn2 hn3).mono ?_
        rintro e w3 ⟨rfl, hb3⟩
        have HB3 := Lib.hid (HB2.out.trans (hb3.mono (by omega)))
        clear hb3
        go_wp2_with fail
        rw [run_negf, HNG.out]
        simp only [Result.andThen]
        rw [Oper.upon_value]
        go_wp2
        go_ret
        exact ⟨ret_float HR.out.symm, HB3.out⟩
    · by_cases h2 : b < 0
      · have da := (decide_eq_false (by omega) : decide (a < 0) = false)
        have db := (decide_eq_true h2 : decide (b < 0) = true)
        have HR := Lib.hid (ratioB_turn (a := a) (b := b) hz (by rw [da, db]; decide))
        clear h0 hz
        generalize ratioB a b = R at *
        generalize a.natAbs = na at *
        generalize b.natAbs = nb at *
        go_enter Tryd.func67, Tryd.ntmps67
        go_wp2_with fail
        refine (HW1.out _).mono ?_
        rintro e w1 ⟨A1, n1, c1, xs1, rfl, hh1, hl1, hb1⟩
        have HN1 := Lib.hid hh1
        have HB1 := Lib.hid hb1
        have hz1 := hb1.size
        clear hh1 hb1
        go_wp2_with fail
        refine (HW2.out _).mono ?_
        rintro e w2 ⟨A2, n2, c2, xs2, rfl, hh2, hl2, hb2⟩
        have HN2 := Lib.hid hh2
        have HN1' := Lib.hid (HN1.out.below hb2)
        have HB2 := Lib.hid (HB1.out.trans (hb2.mono hz1))
        have hz2 := hb2.size
        clear hh2 hb2
        go_wp2_with fail
        refine (near3_any _ _ _ _ _ _ _ _ _ _ _ HN1'.out HN2.out hn1 hn2 hn3).mono ?_
        rintro e w3 ⟨rfl, hb3⟩
        have HB3 := Lib.hid (HB2.out.trans (hb3.mono (by omega)))
        clear hb3
        go_wp2_with fail
        rw [run_negf, HNG.out]
        simp only [Result.andThen]
        rw [Oper.upon_value]
        go_wp2
        go_ret
        exact ⟨ret_float HR.out.symm, HB3.out⟩
      · have da := (decide_eq_false (by omega) : decide (a < 0) = false)
        have db := (decide_eq_false (by omega) : decide (b < 0) = false)
        have HR := Lib.hid (ratioB_same (a := a) (b := b) (by rw [da, db]))
        clear h0 hz
        generalize ratioB a b = R at *
        generalize a.natAbs = na at *
        generalize b.natAbs = nb at *
        go_enter Tryd.func67, Tryd.ntmps67
        go_wp2_with fail
        refine (HW1.out _).mono ?_
        rintro e w1 ⟨A1, n1, c1, xs1, rfl, hh1, hl1, hb1⟩
        have HN1 := Lib.hid hh1
        have HB1 := Lib.hid hb1
        have hz1 := hb1.size
        clear hh1 hb1
        go_wp2_with fail
        refine (HW2.out _).mono ?_
        rintro e w2 ⟨A2, n2, c2, xs2, rfl, hh2, hl2, hb2⟩
        have HN2 := Lib.hid hh2
        have HN1' := Lib.hid (HN1.out.below hb2)
        have HB2 := Lib.hid (HB1.out.trans (hb2.mono hz1))
        have hz2 := hb2.size
        clear hh2 hb2
        go_wp2_with fail
        refine (near3_any _ _ _ _ _ _ _ _ _ _ _ HN1'.out HN2.out hn1 hn2 hn3).mono ?_
        rintro e w3 ⟨rfl, hb3⟩
        have HB3 := Lib.hid (HB2.out.trans (hb3.mono (by omega)))
        clear hb3
        go_wp2
        go_ret
        exact ⟨ret_float HR.out.symm, HB3.out⟩

def ratioV (a b : Int) : Value := if b = 0 then .tuple #[.float .f64 0, .int .i64 5] else .tuple #[.float .f64 (ratioB a b), .int .i64 0]
def ValEnd (w : World) (v : Value) (e : Ending) (w' : World) : Prop := e = .returned v ∧ Below w.heap.size w w'

set_option maxRecDepth 100000 in
set_option maxHeartbeats 800000 in
theorem dratio3_any (w : World) (a b : Int) (ha : -9223372036854775808 ≤ a) (ha' : a ≤ 9223372036854775807) (hb : -9223372036854775808 ≤ b) (hb' : b ≤ 9223372036854775807) :
    Calls Tryd.prog 29 #[.int .i64 a, .int .i64 b] w (ValEnd w (ratioV a b)) := by
  by_cases h0 : b = 0
  · subst h0
    go_enter Tryd.func29, Tryd.ntmps29
    go_wp2
    go_ret2
    exact ⟨by unfold ratioV; rw [if_pos rfl]; rfl, Below.refl _ _⟩
  · have q0 : (b == 0) = false := by simp [h0]
    have HR := Lib.hid (ratio3_any w a b ha ha' hb hb' h0)
    have HV : Hid (ratioV a b = .tuple #[.float .f64 (ratioB a b), .int .i64 0]) := Lib.hid (by unfold ratioV; rw [if_neg h0])
    clear h0
    go_enter Tryd.func29, Tryd.ntmps29
    go_wp2_with fail
    refine HR.out.mono ?_
    rintro e w1 ⟨rfl, hb1⟩
    have HB1 := Lib.hid hb1
    clear hb1
    go_wp2
    go_ret2
    exact ⟨by rw [HV.out]; rfl, HB1.out⟩

/-- What the document's Seconds answers. -/
def secV (t hz : Int) : Value := if isTick t = false ∨ hz < 1 ∨ 1000000000 < hz then .tuple #[.float .f64 0, .int .i64 1] else .tuple #[.float .f64 (ratioB t hz), .int .i64 0]

set_option maxRecDepth 100000 in
set_option maxHeartbeats 800000 in
theorem dsec3_any (w : World) (t hz : Int) (ha : -9223372036854775808 ≤ t) (ha' : t ≤ 9223372036854775807) (hb : -9223372036854775808 ≤ hz) (hb' : hz ≤ 9223372036854775807) :
    Calls Tryd.prog 27 #[.int .i64 t, .int .i64 hz] w (ValEnd w (secV t hz)) := by
  have HF := Lib.hid (rform_any w t)
  by_cases h : isTick t = false ∨ hz < 1 ∨ 1000000000 < hz
  · have HV : Hid (secV t hz = .tuple #[.float .f64 0, .int .i64 1]) := Lib.hid (by unfold secV; rw [if_pos h])
    rcases ht : isTick t with _ | _
    · rw [ht] at HF
      clear h ht
      go_enter Tryd.func27, Tryd.ntmps27
      go_wp2_with fail
      refine HF.out.mono ?_
      rintro e w1 ⟨rfl, rfl⟩
      go_wp2
      go_ret2
      exact ⟨by rw [HV.out]; rfl, Below.refl _ _⟩
    · rw [ht] at HF h
      by_cases h1 : hz < 1
      · clear h ht
        go_enter Tryd.func27, Tryd.ntmps27
        go_wp2_with fail
        refine HF.out.mono ?_
        rintro e w1 ⟨rfl, rfl⟩
        go_wp2
        go_ret2
        exact ⟨by rw [HV.out]; rfl, Below.refl _ _⟩
      · have h2 : 1000000000 < hz := by
          rcases h with h | h | h
          · cases h
          · omega
          · exact h
        clear h ht
        go_enter Tryd.func27, Tryd.ntmps27
        go_wp2_with fail
        refine HF.out.mono ?_
        rintro e w1 ⟨rfl, rfl⟩
        go_wp2
        go_ret2
        exact ⟨by rw [HV.out]; rfl, Below.refl _ _⟩
  · have HV : Hid (secV t hz = .tuple #[.float .f64 (ratioB t hz), .int .i64 0]) := Lib.hid (by unfold secV; rw [if_neg h])
    have ht : isTick t = true := by
      rcases ht : isTick t with _ | _
      · exact absurd (.inl ht) h
      · rfl
    have h1 : ¬ hz < 1 := fun x => h (.inr (.inl x))
    have h2 : ¬ 1000000000 < hz := fun x => h (.inr (.inr x))
    have HR := Lib.hid (ratio3_any w t hz ha ha' hb hb' (by omega))
    rw [ht] at HF
    clear h ht
    go_enter Tryd.func27, Tryd.ntmps27
    go_wp2_with fail
    refine HF.out.mono ?_
    rintro e w1 ⟨rfl, rfl⟩
    go_wp2_with fail
    refine HR.out.mono ?_
    rintro e w1 ⟨rfl, hb1⟩
    have HB1 := Lib.hid hb1
    clear hb1
    go_wp2
    go_ret2
    exact ⟨by rw [HV.out]; rfl, HB1.out⟩
end Go.Proofs.YtafboimlchjnaaaDoor
