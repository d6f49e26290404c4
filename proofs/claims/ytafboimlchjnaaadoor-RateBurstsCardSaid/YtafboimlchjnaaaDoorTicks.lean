/- Contract: the document's Ticks. -/
import Derived.Test.YtafboimlchjnaaaDoorWhole
namespace Go.Proofs.YtafboimlchjnaaaDoor
open Go.RowKit
set_option maxRecDepth 100000

/-- The ticks of a float that is not below 0, without a bound. -/
def ticksN (b hz how : Nat) : Nat := roundV (upN (manS (szB b) * hz) (expS (szB b))) (dnN (expS (szB b))) how

def ticksArg (hz how : Int) : Bool := decide (hz < 1 ∨ 1000000000 < hz ∨ how < 0 ∨ 2 < how)
def ticksOut (b : Nat) : Bool := decide (kindB b = 3 ∨ 0 < kindB b ∧ negB b = true)

/-- What the document's Ticks answers. -/
def ticksV (b : Nat) (hz how : Int) : Int × Int :=
  if ticksArg hz how then (0, 1)
  else if kindB b = 4 then (0, 4)
  else if ticksOut b then (0, 5)
  else if ticksN b hz.toNat how.toNat ≤ 4611686018427387903 then ((ticksN b hz.toNat how.toNat : Nat), 0)
  else (0, 5)

theorem ticksV_arg {b : Nat} {hz how : Int} (h : ticksArg hz how = true) : ticksV b hz how = (0, 1) := by unfold ticksV; rw [if_pos h]
theorem ticksV_nan {b : Nat} {hz how : Int} (h : ticksArg hz how = false) (h4 : kindB b = 4) : ticksV b hz how = (0, 4) := by
  unfold ticksV; rw [if_neg (by rw [h]; simp), if_pos h4]
theorem ticksV_out {b : Nat} {hz how : Int} (h : ticksArg hz how = false) (h4 : kindB b ≠ 4) (ho : ticksOut b = true) : ticksV b hz how = (0, 5) := by
  unfold ticksV; rw [if_neg (by rw [h]; simp), if_neg h4, if_pos ho]
theorem ticksV_ok {b : Nat} {hz how : Int} (h : ticksArg hz how = false) (h4 : kindB b ≠ 4) (ho : ticksOut b = false) (hl : ticksN b hz.toNat how.toNat ≤ 4611686018427387903) :
    ticksV b hz how = (((ticksN b hz.toNat how.toNat : Nat) : Int), 0) := by
  unfold ticksV; rw [if_neg (by rw [h]; simp), if_neg h4, if_neg (by rw [ho]; simp), if_pos hl]
theorem ticksV_big {b : Nat} {hz how : Int} (h : ticksArg hz how = false) (h4 : kindB b ≠ 4) (ho : ticksOut b = false) (hl : ¬ ticksN b hz.toNat how.toNat ≤ 4611686018427387903) :
    ticksV b hz how = (0, 5) := by
  unfold ticksV; rw [if_neg (by rw [h]; simp), if_neg h4, if_neg (by rw [ho]; simp), if_neg hl]

theorem roundV_ge (N M how : Nat) : N / M ≤ roundV N M how := by unfold roundV; split <;> omega
theorem ticksN_big {m hz e how : Nat} (hm : 0 < m) (hh : 0 < hz) (he : 70 < e) : ¬ roundV (upN (m * hz) e) (dnN e) how ≤ 4611686018427387903 := by
  have h1 := roundV_ge (upN (m * hz) e) (dnN e) how
  unfold upN dnN at *
  have e1 : (-(e : Int)).toNat = 0 := by omega
  have e2 : ((e : Int)).toNat = e := by omega
  rw [e1, e2, Nat.pow_zero] at h1 ⊢
  rw [Nat.div_one] at h1
  have h2 : 2 ^ 70 ≤ 2 ^ e := Nat.pow_le_pow_right (by omega) (by omega)
  have h3 : 1 ≤ m * hz := Nat.mul_pos hm hh
  have h4 : 1 * 2 ^ 70 ≤ m * hz * 2 ^ e := Nat.mul_le_mul h3 h2
  omega

def TwoV (w : World) (v : Int × Int) (e : Ending) (w' : World) : Prop := e = .returned (.tuple #[.int .i64 v.1, .int .i64 v.2]) ∧ Below w.heap.size w w'

set_option maxRecDepth 100000 in
set_option maxHeartbeats 1600000 in
theorem dticks_arg (w : World) (b : Nat) (hz how : Int) (h : ticksArg hz how = true) :
    Calls Tryd.prog 25 #[.float .f64 b, .int .i64 hz, .int .i64 how] w (TwoV w (ticksV b hz how)) := by
  have HI := Lib.hid (ticksV_arg (b := b) h)
  have h' : hz < 1 ∨ 1000000000 < hz ∨ how < 0 ∨ 2 < how := by unfold ticksArg at h; exact of_decide_eq_true h
  clear h
  by_cases h1 : hz < 1
  · clear h'
    go_enter Tryd.func25, Tryd.ntmps25
    go_wp2
    go_ret2
    exact ⟨by rw [HI.out]; rfl, Below.refl _ _⟩
  · by_cases h2 : 1000000000 < hz
    · clear h'
      go_enter Tryd.func25, Tryd.ntmps25
      go_wp2
      go_ret2
      exact ⟨by rw [HI.out]; rfl, Below.refl _ _⟩
    · by_cases h3 : how < 0
      · clear h'
        go_enter Tryd.func25, Tryd.ntmps25
        go_wp2
        go_ret2
        exact ⟨by rw [HI.out]; rfl, Below.refl _ _⟩
      · have h4 : 2 < how := by omega
        clear h'
        go_enter Tryd.func25, Tryd.ntmps25
        go_wp2
        go_ret2
        exact ⟨by rw [HI.out]; rfl, Below.refl _ _⟩

set_option maxRecDepth 100000 in
set_option maxHeartbeats 3200000 in
theorem dticks_in (w : World) (b hz how : Nat) (hb : b ≤ 18446744073709551615) (h1 : 1 ≤ hz) (h2 : hz ≤ 1000000000) (h3 : how ≤ 2) :
    Calls Tryd.prog 25 #[.float .f64 b, .int .i64 (hz : Int), .int .i64 (how : Int)] w (TwoV w (ticksV b hz how)) := by
  have ha : ticksArg hz how = false := by unfold ticksArg; exact decide_eq_false (by omega)
  have HC := Lib.hid (kind3_any w b hb)
  have HM := Lib.hid (minus3_any w b hb)
  have HN := Lib.hid (number3_any w b hb)
  have t1 : decide ((hz : Int) < 1) = false := decide_eq_false (by omega)
  have t2 : decide ((1000000000 : Int) < (hz : Int)) = false := decide_eq_false (by omega)
  have t3 : decide ((how : Int) < 0) = false := decide_eq_false (by omega)
  have t4 : decide ((2 : Int) < (how : Int)) = false := decide_eq_false (by omega)
  by_cases h4 : kindB b = 4
  · have HI := Lib.hid (ticksV_nan ha h4)
    rw [h4] at HC
    clear h4 ha
    go_enter Tryd.func25, Tryd.ntmps25
    go_wp2_with fail
    refine HC.out.mono ?_
    rintro e w1 ⟨rfl, rfl⟩
    go_wp2
    go_ret2
    exact ⟨by rw [HI.out]; rfl, Below.refl _ _⟩
  · have q0 : ((kindB b : Int) == 4) = false := beq_eq_false_iff_ne.2 (by omega)
    by_cases h5 : kindB b = 3
    · have HI := Lib.hid (ticksV_out ha h4 (by unfold ticksOut; exact decide_eq_true (.inl h5)))
      rw [h5] at HC
      clear h4 h5 q0 ha
      go_enter Tryd.func25, Tryd.ntmps25
      go_wp2_with fail
      refine HC.out.mono ?_
      rintro e w1 ⟨rfl, rfl⟩
      go_wp2_with fail
      refine HC.out.mono ?_
      rintro e w1 ⟨rfl, rfl⟩
      go_wp2
      go_ret2
      exact ⟨by rw [HI.out]; rfl, Below.refl _ _⟩
    · have q1 : ((kindB b : Int) == 3) = false := beq_eq_false_iff_ne.2 (by omega)
      by_cases h6 : 0 < kindB b ∧ negB b = true
      · have HI := Lib.hid (ticksV_out ha h4 (by unfold ticksOut; exact decide_eq_true (.inr h6)))
        obtain ⟨h6, h7⟩ := h6
        have q2 : decide ((0 : Int) < (kindB b : Int)) = true := decide_eq_true (by omega)
        have q2' : decide (0 < kindB b) = true := decide_eq_true (by omega)
        rw [h7] at HM
        clear h4 h5 h7 ha
        generalize kindB b = k at *
        go_enter Tryd.func25, Tryd.ntmps25
        go_wp2_with fail
        refine HC.out.mono ?_
        rintro e w1 ⟨rfl, rfl⟩
        go_wp2_with fail
        refine HC.out.mono ?_
        rintro e w1 ⟨rfl, rfl⟩
        go_wp2_with fail
        refine HC.out.mono ?_
        rintro e w1 ⟨rfl, rfl⟩
        go_wp2_with fail
        refine HM.out.mono ?_
        rintro e w1 ⟨rfl, rfl⟩
        go_wp2
        go_ret2
        exact ⟨by rw [HI.out]; rfl, Below.refl _ _⟩
      · have ho : ticksOut b = false := by unfold ticksOut; exact decide_eq_false (by rintro (h | h) <;> contradiction)
        have hml := manS_lt (szB b)
        have hel := expS_bd (szB_lt b)
        have HOK := Lib.hid (fun hl => ticksV_ok (b := b) ha h4 ho hl)
        have HBIG := Lib.hid (fun hl => ticksV_big (b := b) ha h4 ho hl)
        have hk : kindB b = 0 ∨ 0 < kindB b ∧ negB b = false := by
          rcases Nat.eq_zero_or_pos (kindB b) with h | h
          · exact .inl h
          · rcases hn : negB b with _ | _
            · exact .inr ⟨h, rfl⟩
            · exact absurd ⟨h, hn⟩ h6
        have hnz : manS (szB b) = 0 → expS (szB b) = -1074 := by
          intro h; unfold manS at h; unfold expS
          split at h
          · rename_i h'; rw [if_pos h']
          · omega
        have htn : Hid (ticksN b (hz : Int).toNat (how : Int).toNat = roundV (upN (manS (szB b) * hz) (expS (szB b))) (dnN (expS (szB b))) how) := Lib.hid (by unfold ticksN; rw [Int.toNat_natCast, Int.toNat_natCast])
        have hmz : manS (szB b) = 0 ∨ 0 < manS (szB b) := Nat.eq_zero_or_pos _
        clear h4 h5 h6 ha ho
        generalize kindB b = k at *
        generalize negB b = ng at *
        generalize expS (szB b) = ex at *
        generalize manS (szB b) = m0 at *
        generalize ticksV b hz how = tv at *
        generalize ticksN b (hz : Int).toNat (how : Int).toNat = tn at *
        rcases hmz with hm0 | hm0
        · have hex := hnz hm0
          subst hm0
          subst hex
          clear hnz
          rcases hk with hk0 | ⟨hk1, hk2⟩
          · subst hk0
            go_enter Tryd.func25, Tryd.ntmps25
            go_wp2_with fail
            refine HC.out.mono ?_
            rintro e w1 ⟨rfl, rfl⟩
            go_wp2_with fail
            refine HC.out.mono ?_
            rintro e w1 ⟨rfl, rfl⟩
            go_wp2_with fail
            refine HC.out.mono ?_
            rintro e w1 ⟨rfl, rfl⟩
            go_wp2_with fail
            refine HN.out.mono ?_
            rintro e w1 ⟨rfl, rfl⟩
            go_wp2_with fail
            refine (word_any _ 0 (by omega)).mono ?_
            rintro e w1 ⟨A1, n1, c1, xs1, rfl, hh1, hl1, hb1⟩
            have HN1 := Lib.hid hh1
            have HB1 := Lib.hid hb1
            have hz1 := hb1.size
            clear hh1 hb1
            go_wp2_with fail
            refine (word_any _ hz (by omega)).mono ?_
            rintro e w2 ⟨A2, n2, c2, xs2, rfl, hh2, hl2, hb2⟩
            have HN2 := Lib.hid hh2
            have HB2 := Lib.hid (HB1.out.trans (hb2.mono hz1))
            have HN1' := Lib.hid (HN1.out.below hb2)
            have hz2 := hb2.size
            clear hh2 hb2
            go_wp2_with fail
            refine (times_any _ _ _ _ _ _ _ _ _ 0 hz HN1'.out HN2.out (by omega) (by omega)).mono ?_
            rintro e w3 ⟨A3, n3, c3, xs3, rfl, hh3, hl3, hb3⟩
            have HN3 := Lib.hid hh3
            have HB3 := Lib.hid (HB2.out.trans (hb3.mono (by omega)))
            have hz3 := hb3.size
            clear hh3 hb3
            go_wp2_with fail
            refine (shift3_any _ _ _ _ (-1074) _ (0 * hz) HN3.out (by omega) (by omega) (by omega)).mono ?_
            rintro e w4 ⟨A4, n4, c4, xs4, A5, n5, c5, xs5, rfl, hh4, hh5, hl4, hl5, hb4⟩
            have HN4 := Lib.hid hh4
            have HN5 := Lib.hid hh5
            have HB4 := Lib.hid (HB3.out.trans (hb4.mono (by omega)))
            have hz4 := hb4.size
            clear hh4 hh5 hb4
            go_wp2_with fail
            refine (whole3_any _ _ _ _ _ _ _ how _ _ _ _ HN4.out HN5.out (by omega) (by omega) (dnN_pos _)).mono ?_
            rintro e w5 ⟨A6, n6, c6, xs6, rfl, hh6, hl6, hb5⟩
            have HN6 := Lib.hid hh6
            have HB5 := Lib.hid (HB4.out.trans (hb5.mono (by omega)))
            clear hh6 hb5
            go_wp2_with fail
            refine (tick3_any _ _ _ _ _ _ HN6.out).mono ?_
            rintro e w6 ⟨hte, rfl⟩
            rw [← htn.out] at hte
            by_cases hmx : tn ≤ 4611686018427387903
            · rw [if_pos hmx] at hte
              have HI := Lib.hid (HOK.out hmx)
              subst hte
              go_wp2
              go_ret2
              exact ⟨by rw [HI.out]; rfl, HB5.out⟩
            · rw [if_neg hmx] at hte
              have HI := Lib.hid (HBIG.out hmx)
              obtain ⟨v, rfl⟩ := hte
              go_wp2
              go_ret2
              exact ⟨by rw [HI.out]; rfl, HB5.out⟩
          · have q2 : decide ((0 : Int) < (k : Int)) = true := decide_eq_true (by omega)
            have q2' : decide (0 < k) = true := decide_eq_true (by omega)
            subst hk2
            go_enter Tryd.func25, Tryd.ntmps25
            go_wp2_with fail
            refine HC.out.mono ?_
            rintro e w1 ⟨rfl, rfl⟩
            go_wp2_with fail
            refine HC.out.mono ?_
            rintro e w1 ⟨rfl, rfl⟩
            go_wp2_with fail
            refine HC.out.mono ?_
            rintro e w1 ⟨rfl, rfl⟩
            go_wp2_with fail
            refine HM.out.mono ?_
            rintro e w1 ⟨rfl, rfl⟩
            go_wp2_with fail
            refine HN.out.mono ?_
            rintro e w1 ⟨rfl, rfl⟩
            go_wp2_with fail
            refine (word_any _ 0 (by omega)).mono ?_
            rintro e w1 ⟨A1, n1, c1, xs1, rfl, hh1, hl1, hb1⟩
            have HN1 := Lib.hid hh1
            have HB1 := Lib.hid hb1
            have hz1 := hb1.size
            clear hh1 hb1
            go_wp2_with fail
            refine (word_any _ hz (by omega)).mono ?_
            rintro e w2 ⟨A2, n2, c2, xs2, rfl, hh2, hl2, hb2⟩
            have HN2 := Lib.hid hh2
            have HB2 := Lib.hid (HB1.out.trans (hb2.mono hz1))
            have HN1' := Lib.hid (HN1.out.below hb2)
            have hz2 := hb2.size
            clear hh2 hb2
            go_wp2_with fail
            refine (times_any _ _ _ _ _ _ _ _ _ 0 hz HN1'.out HN2.out (by omega) (by omega)).mono ?_
            rintro e w3 ⟨A3, n3, c3, xs3, rfl, hh3, hl3, hb3⟩
            have HN3 := Lib.hid hh3
            have HB3 := Lib.hid (HB2.out.trans (hb3.mono (by omega)))
            have hz3 := hb3.size
            clear hh3 hb3
            go_wp2_with fail
            refine (shift3_any _ _ _ _ (-1074) _ (0 * hz) HN3.out (by omega) (by omega) (by omega)).mono ?_
            rintro e w4 ⟨A4, n4, c4, xs4, A5, n5, c5, xs5, rfl, hh4, hh5, hl4, hl5, hb4⟩
            have HN4 := Lib.hid hh4
            have HN5 := Lib.hid hh5
            have HB4 := Lib.hid (HB3.out.trans (hb4.mono (by omega)))
            have hz4 := hb4.size
            clear hh4 hh5 hb4
            go_wp2_with fail
            refine (whole3_any _ _ _ _ _ _ _ how _ _ _ _ HN4.out HN5.out (by omega) (by omega) (dnN_pos _)).mono ?_
            rintro e w5 ⟨A6, n6, c6, xs6, rfl, hh6, hl6, hb5⟩
            have HN6 := Lib.hid hh6
            have HB5 := Lib.hid (HB4.out.trans (hb5.mono (by omega)))
            clear hh6 hb5
            go_wp2_with fail
            refine (tick3_any _ _ _ _ _ _ HN6.out).mono ?_
            rintro e w6 ⟨hte, rfl⟩
            rw [← htn.out] at hte
            by_cases hmx : tn ≤ 4611686018427387903
            · rw [if_pos hmx] at hte
              have HI := Lib.hid (HOK.out hmx)
              subst hte
              go_wp2
              go_ret2
              exact ⟨by rw [HI.out]; rfl, HB5.out⟩
            · rw [if_neg hmx] at hte
              have HI := Lib.hid (HBIG.out hmx)
              obtain ⟨v, rfl⟩ := hte
              go_wp2
              go_ret2
              exact ⟨by rw [HI.out]; rfl, HB5.out⟩
        · have q3 : decide ((0 : Int) < (m0 : Int)) = true := decide_eq_true (by omega)
          have q3' : decide (0 < m0) = true := decide_eq_true (by omega)
          clear hnz
          by_cases he : 70 < ex
          · have hbg : ¬ tn ≤ 4611686018427387903 := by
              have e := htn.out
              obtain ⟨x, rfl⟩ : ∃ x : Nat, ex = (x : Int) := ⟨ex.natAbs, by omega⟩
              rw [e]
              exact ticksN_big hm0 (by omega) (by omega)
            have HI := Lib.hid (HBIG.out hbg)
            clear hbg
            rcases hk with hk0 | ⟨hk1, hk2⟩
            · subst hk0
              go_enter Tryd.func25, Tryd.ntmps25
              go_wp2_with fail
              refine HC.out.mono ?_
              rintro e w1 ⟨rfl, rfl⟩
              go_wp2_with fail
              refine HC.out.mono ?_
              rintro e w1 ⟨rfl, rfl⟩
              go_wp2_with fail
              refine HC.out.mono ?_
              rintro e w1 ⟨rfl, rfl⟩
              go_wp2_with fail
              refine HN.out.mono ?_
              rintro e w1 ⟨rfl, rfl⟩
              go_wp2
              go_ret2
              exact ⟨by rw [HI.out]; rfl, Below.refl _ _⟩
            · have q2 : decide ((0 : Int) < (k : Int)) = true := decide_eq_true (by omega)
              have q2' : decide (0 < k) = true := decide_eq_true (by omega)
              subst hk2
              go_enter Tryd.func25, Tryd.ntmps25
              go_wp2_with fail
              refine HC.out.mono ?_
              rintro e w1 ⟨rfl, rfl⟩
              go_wp2_with fail
              refine HC.out.mono ?_
              rintro e w1 ⟨rfl, rfl⟩
              go_wp2_with fail
              refine HC.out.mono ?_
              rintro e w1 ⟨rfl, rfl⟩
              go_wp2_with fail
              refine HM.out.mono ?_
              rintro e w1 ⟨rfl, rfl⟩
              go_wp2_with fail
              refine HN.out.mono ?_
              rintro e w1 ⟨rfl, rfl⟩
              go_wp2
              go_ret2
              exact ⟨by rw [HI.out]; rfl, Below.refl _ _⟩
          · have q4 : decide ((70 : Int) < ex) = false := decide_eq_false (by omega)
            rcases hk with hk0 | ⟨hk1, hk2⟩
            · subst hk0
              go_enter Tryd.func25, Tryd.ntmps25
              go_wp2_with fail
              refine HC.out.mono ?_
              rintro e w1 ⟨rfl, rfl⟩
              go_wp2_with fail
              refine HC.out.mono ?_
              rintro e w1 ⟨rfl, rfl⟩
              go_wp2_with fail
              refine HC.out.mono ?_
              rintro e w1 ⟨rfl, rfl⟩
              go_wp2_with fail
              refine HN.out.mono ?_
              rintro e w1 ⟨rfl, rfl⟩
              go_wp2_with fail
              refine (word_any _ m0 (by omega)).mono ?_
              rintro e w1 ⟨A1, n1, c1, xs1, rfl, hh1, hl1, hb1⟩
              have HN1 := Lib.hid hh1
              have HB1 := Lib.hid hb1
              have hz1 := hb1.size
              clear hh1 hb1
              go_wp2_with fail
              refine (word_any _ hz (by omega)).mono ?_
              rintro e w2 ⟨A2, n2, c2, xs2, rfl, hh2, hl2, hb2⟩
              have HN2 := Lib.hid hh2
              have HB2 := Lib.hid (HB1.out.trans (hb2.mono hz1))
              have HN1' := Lib.hid (HN1.out.below hb2)
              have hz2 := hb2.size
              clear hh2 hb2
              go_wp2_with fail
              refine (times_any _ _ _ _ _ _ _ _ _ m0 hz HN1'.out HN2.out (by omega) (by omega)).mono ?_
              rintro e w3 ⟨A3, n3, c3, xs3, rfl, hh3, hl3, hb3⟩
              have HN3 := Lib.hid hh3
              have HB3 := Lib.hid (HB2.out.trans (hb3.mono (by omega)))
              have hz3 := hb3.size
              clear hh3 hb3
              go_wp2_with fail
              refine (shift3_any _ _ _ _ ex _ (m0 * hz) HN3.out (by omega) (by omega) (by omega)).mono ?_
              rintro e w4 ⟨A4, n4, c4, xs4, A5, n5, c5, xs5, rfl, hh4, hh5, hl4, hl5, hb4⟩
              have HN4 := Lib.hid hh4
              have HN5 := Lib.hid hh5
              have HB4 := Lib.hid (HB3.out.trans (hb4.mono (by omega)))
              have hz4 := hb4.size
              clear hh4 hh5 hb4
              go_wp2_with fail
              refine (whole3_any _ _ _ _ _ _ _ how _ _ _ _ HN4.out HN5.out (by omega) (by omega) (dnN_pos _)).mono ?_
              rintro e w5 ⟨A6, n6, c6, xs6, rfl, hh6, hl6, hb5⟩
              have HN6 := Lib.hid hh6
              have HB5 := Lib.hid (HB4.out.trans (hb5.mono (by omega)))
              clear hh6 hb5
              go_wp2_with fail
              refine (tick3_any _ _ _ _ _ _ HN6.out).mono ?_
              rintro e w6 ⟨hte, rfl⟩
              rw [← htn.out] at hte
              by_cases hmx : tn ≤ 4611686018427387903
              · rw [if_pos hmx] at hte
                have HI := Lib.hid (HOK.out hmx)
                subst hte
                go_wp2
                go_ret2
                exact ⟨by rw [HI.out]; rfl, HB5.out⟩
              · rw [if_neg hmx] at hte
                have HI := Lib.hid (HBIG.out hmx)
                obtain ⟨v, rfl⟩ := hte
                go_wp2
                go_ret2
                exact ⟨by rw [HI.out]; rfl, HB5.out⟩
            · have q2 : decide ((0 : Int) < (k : Int)) = true := decide_eq_true (by omega)
              have q2' : decide (0 < k) = true := decide_eq_true (by omega)
              subst hk2
              go_enter Tryd.func25, Tryd.ntmps25
              go_wp2_with fail
              refine HC.out.mono ?_
              rintro e w1 ⟨rfl, rfl⟩
              go_wp2_with fail
              refine HC.out.mono ?_
              rintro e w1 ⟨rfl, rfl⟩
              go_wp2_with fail
              refine HC.out.mono ?_
              rintro e w1 ⟨rfl, rfl⟩
              go_wp2_with fail
              refine HM.out.mono ?_
              rintro e w1 ⟨rfl, rfl⟩
              go_wp2_with fail
              refine HN.out.mono ?_
              rintro e w1 ⟨rfl, rfl⟩
              go_wp2_with fail
              refine (word_any _ m0 (by omega)).mono ?_
              rintro e w1 ⟨A1, n1, c1, xs1, rfl, hh1, hl1, hb1⟩
              have HN1 := Lib.hid hh1
              have HB1 := Lib.hid hb1
              have hz1 := hb1.size
              clear hh1 hb1
              go_wp2_with fail
              refine (word_any _ hz (by omega)).mono ?_
              rintro e w2 ⟨A2, n2, c2, xs2, rfl, hh2, hl2, hb2⟩
              have HN2 := Lib.hid hh2
              have HB2 := Lib.hid (HB1.out.trans (hb2.mono hz1))
              have HN1' := Lib.hid (HN1.out.below hb2)
              have hz2 := hb2.size
              clear hh2 hb2
              go_wp2_with fail
              refine (times_any _ _ _ _ _ _ _ _ _ m0 hz HN1'.out HN2.out (by omega) (by omega)).mono ?_
              rintro e w3 ⟨A3, n3, c3, xs3, rfl, hh3, hl3, hb3⟩
              have HN3 := Lib.hid hh3
              have HB3 := Lib.hid (HB2.out.trans (hb3.mono (by omega)))
              have hz3 := hb3.size
              clear hh3 hb3
              go_wp2_with fail
              refine (shift3_any _ _ _ _ ex _ (m0 * hz) HN3.out (by omega) (by omega) (by omega)).mono ?_
              rintro e w4 ⟨A4, n4, c4, xs4, A5, n5, c5, xs5, rfl, hh4, hh5, hl4, hl5, hb4⟩
              have HN4 := Lib.hid hh4
              have HN5 := Lib.hid hh5
              have HB4 := Lib.hid (HB3.out.trans (hb4.mono (by omega)))
              have hz4 := hb4.size
              clear hh4 hh5 hb4
              go_wp2_with fail
              refine (whole3_any _ _ _ _ _ _ _ how _ _ _ _ HN4.out HN5.out (by omega) (by omega) (dnN_pos _)).mono ?_
              rintro e w5 ⟨A6, n6, c6, xs6, rfl, hh6, hl6, hb5⟩
              have HN6 := Lib.hid hh6
              have HB5 := Lib.hid (HB4.out.trans (hb5.mono (by omega)))
              clear hh6 hb5
              go_wp2_with fail
              refine (tick3_any _ _ _ _ _ _ HN6.out).mono ?_
              rintro e w6 ⟨hte, rfl⟩
              rw [← htn.out] at hte
              by_cases hmx : tn ≤ 4611686018427387903
              · rw [if_pos hmx] at hte
                have HI := Lib.hid (HOK.out hmx)
                subst hte
                go_wp2
                go_ret2
                exact ⟨by rw [HI.out]; rfl, HB5.out⟩
              · rw [if_neg hmx] at hte
                have HI := Lib.hid (HBIG.out hmx)
                obtain ⟨v, rfl⟩ := hte
                go_wp2
                go_ret2
                exact ⟨by rw [HI.out]; rfl, HB5.out⟩
end Go.Proofs.YtafboimlchjnaaaDoor
