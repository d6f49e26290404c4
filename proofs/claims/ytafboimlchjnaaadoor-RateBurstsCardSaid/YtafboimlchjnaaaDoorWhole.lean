/- Contracts: the document's answers that round a quotient: word, Tick, Shift, Whole. -/
import Derived.Test.YtafboimlchjnaaaDoorExact
namespace Go.Proofs.YtafboimlchjnaaaDoor
open Go.RowKit
set_option maxRecDepth 100000

theorem num_len_le {w w' : World} {A B : Option Addr} {n m c d N M : Nat} {xs ys : List Nat} (h : Num w A n c xs N) (k : Num w' B m d ys M) (hle : N ≤ M) : n ≤ m := by
  rcases Nat.lt_or_ge m n with h1 | h1
  · have := Mth.Dig.lt_of_len k.dig h.dig (by rw [k.own.len, h.own.len]; exact h1)
    omega
  · exact h1
theorem num_zero {w : World} {A : Option Addr} {n c N : Nat} {xs : List Nat} (h : Num w A n c xs N) : n = 0 ↔ N = 0 := by
  rw [← h.dig.zero_iff, ← h.own.len]
  exact List.length_eq_zero_iff
theorem num_odd {w : World} {A : Option Addr} {n c N : Nat} {xs : List Nat} (h : Num w A n c xs N) : xs.getD 0 0 % 2 = N % 2 := by
  have := h.dig.1.2
  rcases xs with _ | ⟨d, l⟩
  · simp [Mth.val] at this; subst this; rfl
  · simp only [Mth.val] at this
    simp
    omega

/-- Whether a rounded quotient is one more, and the rounded quotient. -/
def upB (N M how : Nat) : Bool := decide (how = 1 ∧ 0 < N % M) || decide (how = 2 ∧ (M < N % M + N % M ∨ N % M + N % M = M ∧ N / M % 2 = 1))
theorem upB_true {N M how : Nat} (h : how = 1 ∧ 0 < N % M ∨ how = 2 ∧ (M < N % M + N % M ∨ N % M + N % M = M ∧ N / M % 2 = 1)) : upB N M how = true := by
  unfold upB
  rw [Bool.or_eq_true, decide_eq_true_eq, decide_eq_true_eq]
  exact h
theorem upB_false {N M how : Nat} (h : ¬ (how = 1 ∧ 0 < N % M ∨ how = 2 ∧ (M < N % M + N % M ∨ N % M + N % M = M ∧ N / M % 2 = 1))) : upB N M how = false := by
  rcases hb : upB N M how with _ | _
  · rfl
  · unfold upB at hb
    rw [Bool.or_eq_true, decide_eq_true_eq, decide_eq_true_eq] at hb
    exact absurd hb h
def roundV (N M how : Nat) : Nat := if upB N M how then N / M + 1 else N / M

theorem wrap64u (a : Int) (h0 : 0 ≤ a) (h1 : a ≤ 9223372036854775807) : IntKind.u64.wrap a = a := u64_in h0 (by omega)

set_option maxRecDepth 100000 in
set_option maxHeartbeats 800000 in
theorem word3_any (w : World) (a : Int) (h0 : -9223372036854775808 ≤ a) (h1 : a ≤ 9223372036854775807) :
    Calls Tryd.prog 92 #[.int .i64 a] w (NumEnd w a.natAbs 2) := by
  by_cases hn : a < 0
  · have HW := Lib.hid (word_any w a.natAbs (by omega))
    have hw : IntKind.u64.wrap a = a + 18446744073709551616 := by simp [IntKind.wrap, IntKind.bits, IntKind.signed]; omega
    have hw2 : IntKind.u64.wrap (-(a + 18446744073709551616)) = (a.natAbs : Int) := by simp [IntKind.wrap, IntKind.bits, IntKind.signed]; omega
    go_enter Tryd.func92, Tryd.ntmps92
    go_wp2_with fail
    refine HW.out.mono ?_
    rintro e w' ⟨A, n, c, xs, rfl, h⟩
    have HH := Lib.hid h
    clear h hw hw2
    go_wp2
    go_ret
    exact ⟨_, _, _, _, rfl, HH.out⟩
  · obtain ⟨k, rfl⟩ : ∃ k : Nat, a = (k : Int) := ⟨a.natAbs, by omega⟩
    have HW := Lib.hid (word_any w k (by omega))
    have hk : (k : Int).natAbs = k := by omega
    rw [hk]
    clear hk
    go_enter Tryd.func92, Tryd.ntmps92
    go_wp2_with fail
    refine HW.out.mono ?_
    rintro e w' ⟨A, n, c, xs, rfl, h⟩
    have HH := Lib.hid h
    clear h
    go_wp2
    go_ret
    exact ⟨_, _, _, _, rfl, HH.out⟩

/-- How Tick ends. -/
def TickEnd (w : World) (N : Nat) (e : Ending) (w' : World) : Prop :=
  (if N ≤ 4611686018427387903 then e = .returned (.tuple #[.int .i64 (N : Int), .bool true]) else ∃ v, e = .returned (.tuple #[.int .i64 v, .bool false])) ∧ w = w'

set_option maxRecDepth 100000 in
set_option maxHeartbeats 800000 in
theorem tick3_any (w : World) (A : Option Addr) (n c : Nat) (xs : List Nat) (N : Nat) (h : Num w A n c xs N) :
    Calls Tryd.prog 65 #[.slice A n c] w (TickEnd w N) := by
  have hlen := h.own.len
  have hle := h.own.le
  have hcap := h.own.cap
  unfold maxLen at hcap
  rcases Nat.lt_or_ge 2 n with hn | hn
  · have hN : ¬ N ≤ 4611686018427387903 := by
      have h1 := h.dig.pos (by intro e; rw [e] at hlen; simp at hlen; omega)
      have h2 : 4294967296 ^ 2 ≤ 4294967296 ^ (xs.length - 1) := Nat.pow_le_pow_right (by omega) (by omega)
      omega
    have HN := Lib.hid h
    have HX := Lib.hid hN
    clear hN h
    go_enter Tryd.func65, Tryd.ntmps65
    go_wp2_with fail
    refine (fits_big _ 0 _ _ _ _ HN.out.own (by omega)).mono ?_
    rintro e w' ⟨⟨v, rfl⟩, rfl⟩
    go_wp2
    go_ret2
    exact ⟨by rw [if_neg HX.out]; exact ⟨_, rfl⟩, rfl⟩
  · have hlt : N < 18446744073709551616 := by
      have h1 := h.dig.1.lt
      have h2 : 4294967296 ^ xs.length ≤ 4294967296 ^ 2 := Nat.pow_le_pow_right (by omega) (by omega)
      omega
    have HN := Lib.hid h
    clear h
    by_cases hx : N ≤ 4611686018427387903
    · have q0 : decide ((N : Int) ≤ 4611686018427387903) = true := decide_eq_true (by omega)
      go_enter Tryd.func65, Tryd.ntmps65
      go_wp2_with fail
      refine (fits_small _ 0 _ _ _ _ N HN.out.own HN.out.dig.1 hn).mono ?_
      rintro e w' ⟨rfl, rfl⟩
      go_wp2
      go_ret2
      exact ⟨by rw [if_pos hx]; rfl, rfl⟩
    · have q0 : decide ((N : Int) ≤ 4611686018427387903) = false := decide_eq_false (by omega)
      have HX := Lib.hid hx
      clear hx
      go_enter Tryd.func65, Tryd.ntmps65
      go_wp2_with fail
      refine (fits_small _ 0 _ _ _ _ N HN.out.own HN.out.dig.1 hn).mono ?_
      rintro e w' ⟨rfl, rfl⟩
      go_wp2
      go_ret2
      exact ⟨by rw [if_neg HX.out]; exact ⟨_, rfl⟩, rfl⟩

/-- How Shift ends: N over M, with at most L digits each. -/
def TwoNums (w : World) (N M L : Nat) (e : Ending) (w' : World) : Prop :=
  ∃ A n c xs B m d ys, e = .returned (.tuple #[.slice A n c, .slice B m d]) ∧ Num w' A n c xs N ∧ Num w' B m d ys M ∧ n ≤ L ∧ m ≤ L ∧ Below w.heap.size w w'

set_option maxRecDepth 100000 in
set_option maxHeartbeats 800000 in
theorem shift3_up (w : World) (A : Option Addr) (n c k : Nat) (xs : List Nat) (N : Nat) (h : Num w A n c xs N) (hn : n ≤ 256) (hk : k ≤ 16384) :
    Calls Tryd.prog 62 #[.slice A n c, .int .i64 (k : Int)] w (TwoNums w (N * 2 ^ k) 1 (n + 600)) := by
  have HN := Lib.hid h
  clear h
  go_enter Tryd.func62, Tryd.ntmps62
  go_wp2_with fail
  refine (left_any _ _ _ _ k _ N HN.out (by omega) (by omega)).mono ?_
  rintro e w1 ⟨T, nt, ct, ts, rfl, htn, htl, hb1⟩
  have HTN := Lib.hid htn
  have HB1 := Lib.hid hb1
  have hz1 := hb1.size
  clear htn hb1
  go_wp2_with fail
  refine (word_any _ 1 (by omega)).mono ?_
  rintro e w2 ⟨O, no, co, os, rfl, hon, hol, hb2⟩
  have HON := Lib.hid hon
  have HB2 := Lib.hid hb2
  clear hon hb2
  go_wp2
  go_ret2
  exact ⟨_, _, _, _, _, _, _, _, rfl, HTN.out.below HB2.out, HON.out, by omega, by omega, HB1.out.trans (HB2.out.mono hz1)⟩

set_option maxRecDepth 100000 in
set_option maxHeartbeats 800000 in
theorem shift3_down (w : World) (A : Option Addr) (n c k : Nat) (xs : List Nat) (N : Nat) (h : Num w A n c xs N) (hn : n ≤ 256) (hk : k ≤ 16384) (hk0 : 0 < k) :
    Calls Tryd.prog 62 #[.slice A n c, .int .i64 (-(k : Int))] w (TwoNums w N (2 ^ k) (n + 600)) := by
  have HN := Lib.hid h
  clear h
  go_enter Tryd.func62, Tryd.ntmps62
  go_wp2_with fail
  refine (word_any _ 1 (by omega)).mono ?_
  rintro e w1 ⟨O, no, co, os, rfl, hon, hol, hb1⟩
  have HON := Lib.hid hon
  have HB1 := Lib.hid hb1
  have hz1 := hb1.size
  clear hon hb1
  go_wp2_with fail
  refine (left_any _ _ _ _ k _ 1 HON.out (by omega) (by omega)).mono ?_
  rintro e w2 ⟨T, nt, ct, ts, rfl, htn, htl, hb2⟩
  have HTN := Lib.hid htn
  have HB2 := Lib.hid hb2
  clear htn hb2
  go_wp2
  go_ret2
  exact ⟨_, _, _, _, _, _, _, _, rfl, (HN.out.below HB1.out).below HB2.out, by have := HTN.out; rw [Nat.one_mul] at this; exact this, by omega, by omega, HB1.out.trans (HB2.out.mono hz1)⟩
/-- m times 2^e as a fraction. -/
def upN (m : Nat) (e : Int) : Nat := m * 2 ^ e.toNat
def dnN (e : Int) : Nat := 2 ^ (-e).toNat
theorem dnN_pos (e : Int) : 0 < dnN e := Nat.pow_pos (by omega)

theorem shift3_any (w : World) (A : Option Addr) (n c : Nat) (e : Int) (xs : List Nat) (N : Nat) (h : Num w A n c xs N) (hn : n ≤ 256) (h1 : -16384 ≤ e) (h2 : e ≤ 16384) :
    Calls Tryd.prog 62 #[.slice A n c, .int .i64 e] w (TwoNums w (upN N e) (dnN e) (n + 600)) := by
  unfold upN dnN
  rcases Int.lt_or_le e 0 with hlt | hle
  · obtain ⟨k, rfl⟩ : ∃ k : Nat, e = -(k : Int) := ⟨e.natAbs, by omega⟩
    have e1 : (-(k : Int)).toNat = 0 := by omega
    have e2 : (- -(k : Int)).toNat = k := by omega
    rw [e1, e2, Nat.pow_zero, Nat.mul_one]
    exact shift3_down w A n c k xs N h hn (by omega) (by omega)
  · obtain ⟨k, rfl⟩ : ∃ k : Nat, e = (k : Int) := ⟨e.natAbs, by omega⟩
    have e1 : (-(k : Int)).toNat = 0 := by omega
    have e2 : ((k : Int)).toNat = k := by omega
    rw [e1, e2, Nat.pow_zero]
    exact shift3_up w A n c k xs N h hn (by omega)

theorem whole_stay {w w' : World} {N M how n c L : Nat} {A : Option Addr} {xs : List Nat} (h : Num w' A n c xs (N / M)) (hb : Below w.heap.size w w') (hu : ¬ (how = 1 ∧ 0 < N % M ∨ how = 2 ∧ (M < N % M + N % M ∨ N % M + N % M = M ∧ N / M % 2 = 1))) (hl : n ≤ L) :
    NumEnd w (roundV N M how) L (.returned (.slice A n c)) w' :=
  ⟨_, _, _, _, rfl, by unfold roundV; rw [upB_false hu]; exact h, hl, hb⟩

theorem whole_up {w w' : World} {N M how n c L : Nat} {A : Option Addr} {xs : List Nat} (h : Num w' A n c xs (N / M + 1)) (hb : Below w.heap.size w w') (hu : upB N M how = true) (hl : n ≤ L) :
    NumEnd w (roundV N M how) L (.returned (.slice A n c)) w' :=
  ⟨_, _, _, _, rfl, by unfold roundV; rw [hu]; exact h, hl, hb⟩

set_option maxRecDepth 100000 in
set_option maxHeartbeats 1600000 in
theorem whole3_any (w : World) (A B : Option Addr) (n m c d how : Nat) (xs ys : List Nat) (N M : Nat) (hA : Num w A n c xs N) (hB : Num w B m d ys M) (hn : n ≤ 4096) (hm : m ≤ 4096) (hM : 0 < M) :
    Calls Tryd.prog 66 #[.slice A n c, .slice B m d, .int .i64 (how : Int)] w (NumEnd w (roundV N M how) (n + 3)) := by
  have HA := Lib.hid hA
  have HB := Lib.hid hB
  have hrl : N % M < M := Nat.mod_lt _ hM
  have hql : N / M ≤ N := Nat.div_le_self _ _
  clear hA hB
  go_enter Tryd.func66, Tryd.ntmps66
  go_wp2_with fail
  refine (quo_any _ _ _ _ _ _ _ _ _ N M HA.out HB.out (by omega) (by omega) hM).mono ?_
  rintro e w1 ⟨Q, nq, cq, qs, R, nr, cr, rs, rfl, hQ, hR, hrn, hb1⟩
  have hz1 := hb1.size
  have hqn := num_len_le hQ (HA.out.below hb1) hql
  have HQ := Lib.hid hQ
  have HR := Lib.hid hR
  have HB1 := Lib.hid hb1
  clear hQ hR hb1
  go_wp2_with fail
  refine (plus_any _ _ _ _ _ _ _ _ _ (N % M) (N % M) HR.out HR.out (by omega) (by omega)).mono ?_
  rintro e w2 ⟨S, ns, cs, ss, rfl, hS, hsn, hb2⟩
  have hz2 := hb2.size
  have HS := Lib.hid hS
  have HB2 := Lib.hid hb2
  clear hS hb2
  go_wp2_with fail
  refine (comp_any _ _ _ _ _ _ _ _ _ (N % M + N % M) M HS.out ((HB.out.below HB1.out).below HB2.out)).mono ?_
  rintro e w3 ⟨rfl, t, rfl⟩
  have HQ3 := Lib.hid ((HQ.out.below HB2.out).drewN t)
  have HR3 := Lib.hid ((HR.out.below HB2.out).drewN t)
  have HB3 := Lib.hid (below_drewN (HB1.out.trans (HB2.out.mono hz1)) t)
  have HC : Hid ((0 < cmpV (N % M + N % M) M ↔ M < N % M + N % M) ∧ (cmpV (N % M + N % M) M = 0 ↔ N % M + N % M = M)) := by
    refine Lib.hid ?_
    unfold cmpV
    refine ⟨?_, ?_⟩ <;> split <;> try split
    all_goals omega
  have HZ := Lib.hid (num_zero HR3.out)
  have HOD := Lib.hid (num_odd HQ3.out)
  generalize cmpV (N % M + N % M) M = cv at *
  rcases Nat.eq_zero_or_pos nq with hq0 | hq0
  · subst hq0
    have HQ0 := Lib.hid ((num_zero HQ3.out).1 rfl)
    go_wp2_with fail
    all_goals (first
      | (go_ret
         refine whole_stay HQ3.out HB3.out ?_ (by omega)
         have z := HZ.out
         have c := HC.out
         have o := HOD.out
         have q0 := HQ0.out
         omega)
      | (have HU : Hid (upB N M how = true) := by
           refine Lib.hid (upB_true ?_)
           have z := HZ.out
           have c := HC.out
           have o := HOD.out
           have q0 := HQ0.out
           omega
         refine (word_any _ 1 (by omega)).mono ?_
         rintro e w4 ⟨O, no, co, os, rfl, hon, hol, hb4⟩
         have HON := Lib.hid hon
         have HB4 := Lib.hid hb4
         have hz4 := hb4.size
         clear hon hb4
         go_wp2_with fail
         refine (plus_any _ _ _ _ _ _ _ _ _ (N / M) 1 (HQ3.out.below HB4.out) HON.out (by omega) (by omega)).mono ?_
         rintro e w5 ⟨T, nt, ct, ts, rfl, htn, htl, hb5⟩
         have HTN := Lib.hid htn
         have HB5 := Lib.hid hb5
         clear htn hb5
         go_wp2
         go_ret
         exact whole_up HTN.out (HB3.out.trans ((HB4.out.trans (HB5.out.mono hz4)).mono HB3.out.size)) HU.out (by omega)))
  · obtain ⟨g, rfl, _, hg, hcell⟩ := HQ3.out.own.at_ (k := 0) hq0
    have hd := getD_lt qs HQ3.out.dig.1.1 0
    generalize qs.getD 0 0 = dq at *
    rcases Nat.mod_two_eq_zero_or_one dq with he | he
    · have q5 : ((dq : Int) % 2 == 1) = false := beq_eq_false_iff_ne.2 (by omega)
      have HQ0 := Lib.hid he
      clear he
      go_wp2_with fail
      all_goals (first
        | (go_ret
           refine whole_stay HQ3.out HB3.out ?_ (by omega)
           have z := HZ.out
           have c := HC.out
           have o := HOD.out
           have q0 := HQ0.out
           omega)
        | (have HU : Hid (upB N M how = true) := by
             refine Lib.hid (upB_true ?_)
             have z := HZ.out
             have c := HC.out
             have o := HOD.out
             have q0 := HQ0.out
             omega
           refine (word_any _ 1 (by omega)).mono ?_
           rintro e w4 ⟨O, no, co, os, rfl, hon, hol, hb4⟩
           have HON := Lib.hid hon
           have HB4 := Lib.hid hb4
           have hz4 := hb4.size
           clear hon hb4
           go_wp2_with fail
           refine (plus_any _ _ _ _ _ _ _ _ _ (N / M) 1 (HQ3.out.below HB4.out) HON.out (by omega) (by omega)).mono ?_
           rintro e w5 ⟨T, nt, ct, ts, rfl, htn, htl, hb5⟩
           have HTN := Lib.hid htn
           have HB5 := Lib.hid hb5
           clear htn hb5
           go_wp2
           go_ret
           exact whole_up HTN.out (HB3.out.trans ((HB4.out.trans (HB5.out.mono hz4)).mono HB3.out.size)) HU.out (by omega)))
    · have q5 : ((dq : Int) % 2 == 1) = true := beq_iff_eq.2 (by omega)
      have HQ0 := Lib.hid he
      clear he
      go_wp2_with fail
      all_goals (first
        | (go_ret
           refine whole_stay HQ3.out HB3.out ?_ (by omega)
           have z := HZ.out
           have c := HC.out
           have o := HOD.out
           have q0 := HQ0.out
           omega)
        | (have HU : Hid (upB N M how = true) := by
             refine Lib.hid (upB_true ?_)
             have z := HZ.out
             have c := HC.out
             have o := HOD.out
             have q0 := HQ0.out
             omega
           refine (word_any _ 1 (by omega)).mono ?_
           rintro e w4 ⟨O, no, co, os, rfl, hon, hol, hb4⟩
           have HON := Lib.hid hon
           have HB4 := Lib.hid hb4
           have hz4 := hb4.size
           clear hon hb4
           go_wp2_with fail
           refine (plus_any _ _ _ _ _ _ _ _ _ (N / M) 1 (HQ3.out.below HB4.out) HON.out (by omega) (by omega)).mono ?_
           rintro e w5 ⟨T, nt, ct, ts, rfl, htn, htl, hb5⟩
           have HTN := Lib.hid htn
           have HB5 := Lib.hid hb5
           clear htn hb5
           go_wp2
           go_ret
           exact whole_up HTN.out (HB3.out.trans ((HB4.out.trans (HB5.out.mono hz4)).mono HB3.out.size)) HU.out (by omega)))
end Go.Proofs.YtafboimlchjnaaaDoor
