/- Contract: what stands between two places of a list in order. -/
import Derived.Test.YtffibfnagoagcaaQtF
import Derived.Test.YtffibfnagoagcaaQtS
namespace Go.Proofs.Ytffibfnagoagcaa
open Go.RowKit Ieee
set_option maxRecDepth 100000
set_option linter.unusedVariables false

theorem sub_ord {a b : Nat} (ha : a ≤ 18446744073709551615) (hb : b ≤ 18446744073709551615) (na : nanB a = false) (nb : nanB b = false) (hlt : idxB b < idxB a) : ∃ r, floatBits .sub .f64 a b = some r ∧ r ≤ 18446744073709551615 ∧ nanB r = false := by
  have la := of_decide_eq_false na
  have lb := of_decide_eq_false nb
  have inf_ok : ∀ s, ∃ r, (some (Datum.infinity s)).map Ieee.double.write = some r ∧ r ≤ 18446744073709551615 ∧ nanB r = false := fun s => by
    obtain ⟨w1, w2, w3⟩ := word_sz' (neg := s) (Nat.le_refl 9218868437227405312)
    exact ⟨_, rfl, w3, decide_eq_false (by show ¬ 9218868437227405312 < szB (Ieee.double.word s 9218868437227405312); omega)⟩
  rcases Nat.lt_or_ge (szB a) 9218868437227405312 with h1 | h1
  · rcases Nat.lt_or_ge (szB b) 9218868437227405312 with h2 | h2
    · obtain ⟨r, e, o⟩ := sub_op ha hb h1 h2
      exact ⟨r, e, o.le, o.nan⟩
    · have e : floatBits .sub .f64 a b = (some (Datum.infinity (!negB b))).map Ieee.double.write := by
        show Ieee.double.sub a b = _
        unfold Format.sub
        rw [read_fin ha h1, read_infs hb (by omega)]
        rfl
      rw [e]; exact inf_ok _
  · rcases Nat.lt_or_ge (szB b) 9218868437227405312 with h2 | h2
    · have e : floatBits .sub .f64 a b = (some (Datum.infinity (negB a))).map Ieee.double.write := by
        show Ieee.double.sub a b = _
        unfold Format.sub
        rw [read_fin hb h2, read_infs ha (by omega)]
        rfl
      rw [e]; exact inf_ok _
    · have hne : negB a = !negB b := by
        have ka : kindB a ≠ 4 := fun h => by rw [(kind4 a).1 h] at na; cases na
        have kb : kindB b ≠ 4 := fun h => by rw [(kind4 b).1 h] at nb; cases nb
        rcases ga : negB a with _ | _ <;> rcases gb : negB b with _ | _ <;> simp only [Bool.not_true, Bool.not_false] <;> exfalso
        · rw [idxB_pos ka ga, idxB_pos kb gb] at hlt; omega
        · rw [idxB_neg ka ga, idxB_neg kb gb] at hlt; omega
      have e : floatBits .sub .f64 a b = (some (Datum.infinity (negB a))).map Ieee.double.write := by
        show Ieee.double.sub a b = _
        unfold Format.sub
        rw [read_infs hb (by omega), read_infs ha (by omega)]
        simp only [Datum.opposite, Datum.sum, hne, if_true]
      rw [e]; exact inf_ok _
theorem man_ne {s : Nat} (h : s ≠ 0) : manS s ≠ 0 := by unfold manS; split <;> omega
theorem mul_some {x y : Nat} (hx : x ≤ 18446744073709551615) (hy : y ≤ 18446744073709551615) (fx : szB x < 9218868437227405312) (x0 : szB x ≠ 0) (ny : nanB y = false) : ∃ r, floatBits .mul .f64 x y = some r ∧ r ≤ 18446744073709551615 := by
  have ly := of_decide_eq_false ny
  rcases Nat.lt_or_ge (szB y) 9218868437227405312 with h | h
  · obtain ⟨r, e, l, _⟩ := mul_op hx hy fx h
    exact ⟨r, e, l⟩
  · obtain ⟨w1, w2, w3⟩ := word_sz' (neg := negB y ^^ negB x) (Nat.le_refl 9218868437227405312)
    refine ⟨_, ?_, w3⟩
    show Ieee.double.mul x y = _
    unfold Format.mul
    rw [read_fin hx fx, read_infs hy (by omega)]
    simp only [Datum.product]
    rw [if_neg (man_ne x0)]
    rfl
/-- A place in a list of n numbers. -/
structure PlP (P n : Nat) : Prop where
  le : P ≤ 18446744073709551615
  fin : szB P < 9218868437227405312
  neg : negB P = true → szB P = 0
  lt : fiB P < n
theorem PlP.val {P n : Nat} (h : PlP P n) : VB P = (WS (szB P) : Int) := by
  unfold VB
  rcases hg : negB P with _ | _
  · rfl
  · rw [h.neg hg, WS_zero]; rfl
theorem one_S : WS 4607182418800017408 = 2 ^ cE := by
  have h := (wh_int (z := 1) (by decide)).val
  have e : floatOfInt FloatKind.f64 1 = 4607182418800017408 := by decide +kernel
  rw [e] at h
  have h2 : VB 4607182418800017408 = (WS (szB 4607182418800017408) : Int) := VB_pos (by decide)
  rw [h2, show szB 4607182418800017408 = 4607182418800017408 by decide, Int.one_mul] at h
  omega
theorem PlP.frac {P n : Nat} (h : PlP P n) (hn : n ≤ 4096) : ∃ f, floatBits .sub .f64 P (floatOfInt FloatKind.f64 (fiB P : Nat)) = some f ∧ f ≤ 18446744073709551615 ∧ szB f ≤ 4607182418800017408 ∧ Op1 ((WS (szB P) % 2 ^ cE : Nat) : Int) (2 ^ cE) f := by
  have hw := wh_int (z := (fiB P : Nat)) (by have := h.lt; omega)
  obtain ⟨f, e, o⟩ := sub_op h.le hw.le h.fin hw.fin
  have hT : VB P - VB (floatOfInt FloatKind.f64 (fiB P : Nat)) = ((WS (szB P) % 2 ^ cE : Nat) : Int) := by
    rw [h.val, hw.val]
    have h1 := Nat.div_add_mod (WS (szB P)) (2 ^ cE)
    unfold fiB
    generalize 2 ^ cE = Z at *
    generalize WS (szB P) = W at *
    have h2 : (W : Int) = (Z : Int) * ((W / Z : Nat) : Int) + ((W % Z : Nat) : Int) := by exact_mod_cast h1.symm
    rw [Int.mul_comm ((W / Z : Nat) : Int) (Z : Int)]
    omega
  rw [hT] at o
  refine ⟨f, e, o.le, ?_, o⟩
  refine o.rd.le_S cE_pos ?_
  rw [one_S]
  refine Nat.mul_le_mul_right _ ?_
  rw [Int.natAbs_natCast]
  exact Nat.le_of_lt (Nat.mod_lt _ cE_pos)
/-- What stands at a place. -/
def betV (xs : List Nat) (n P : Nat) : Nat :=
  if szB ((floatBits .sub .f64 P (floatOfInt FloatKind.f64 (fiB P : Nat))).getD 0) = 0 ∨ fiB P + 1 = n ∨ sameB (xs.getD (fiB P) 0) (xs.getD (fiB P + 1) 0) = true then canB (xs.getD (fiB P) 0)
  else fop .add (canB (xs.getD (fiB P) 0)) (canB ((floatBits .mul .f64 ((floatBits .sub .f64 P (floatOfInt FloatKind.f64 (fiB P : Nat))).getD 0) ((floatBits .sub .f64 (xs.getD (fiB P + 1) 0) (xs.getD (fiB P) 0)).getD 0)).getD 0))
theorem betV_lo {xs : List Nat} {n P f : Nat} (hf : floatBits .sub .f64 P (floatOfInt FloatKind.f64 (fiB P : Nat)) = some f) (h : szB f = 0 ∨ fiB P + 1 = n ∨ sameB (xs.getD (fiB P) 0) (xs.getD (fiB P + 1) 0) = true) : betV xs n P = canB (xs.getD (fiB P) 0) := by
  unfold betV
  rw [hf]
  simp only [Option.getD_some]
  rw [if_pos h]
theorem betV_up {xs : List Nat} {n P f d m : Nat} (hf : floatBits .sub .f64 P (floatOfInt FloatKind.f64 (fiB P : Nat)) = some f) (hd : floatBits .sub .f64 (xs.getD (fiB P + 1) 0) (xs.getD (fiB P) 0) = some d) (hm : floatBits .mul .f64 f d = some m)
    (h : ¬ (szB f = 0 ∨ fiB P + 1 = n ∨ sameB (xs.getD (fiB P) 0) (xs.getD (fiB P + 1) 0) = true)) : betV xs n P = fop .add (canB (xs.getD (fiB P) 0)) (canB m) := by
  unfold betV
  rw [hf, hd]
  simp only [Option.getD_some]
  rw [if_neg h, hm]
  rfl
theorem PlP.gt {P n f : Nat} (h : PlP P n) (o : Op1 ((WS (szB P) % 2 ^ cE : Nat) : Int) (2 ^ cE) f) (h0 : szB f ≠ 0) : FloatKind.f64.format.order f 0 = some .gt := by
  have hT : (0 : Int) < ((WS (szB P) % 2 ^ cE : Nat) : Int) := by
    rcases Nat.eq_zero_or_pos (WS (szB P) % 2 ^ cE) with e | e
    · rw [e] at o
      have := o.rd.le_S (t := 0) cE_pos (by simp)
      omega
    · omega
  have hn := o.pos hT
  rcases ord_nought o.le o.nan with ⟨g, _, _⟩ | ⟨_, g, _⟩ | ⟨_, _, g⟩
  · unfold le0B at g; rw [hn, decide_eq_false h0] at g; cases g
  · unfold lt0B at g; rw [hn] at g; simp at g
  · exact g
theorem ord_z {f : Nat} (hf : f ≤ 18446744073709551615) (h : szB f = 0) : FloatKind.f64.format.order f 0 = some .eq := by
  rcases ord_lost f hf with ⟨_, g⟩ | ⟨g, _⟩
  · exact g
  · exact absurd h g
set_option maxHeartbeats 1600000 in
theorem between_any (w : World) (A : Option Addr) (n c : Nat) (xs : List Nat) (P : Nat) (h : ArgF w w.heap.size A n c xs) (hn : n ≤ 4096) (hp : PlP P n) (hx : ∀ x ∈ xs, nanB x = false) (hs : Srt xs) :
    Calls Try.prog 56 #[.slice A n c, .float .f64 P] w fun e w' => ∃ v, e = .returned (.float .f64 v) ∧ v ≤ 18446744073709551615 ∧ canB v = betV xs n P ∧ ∃ k, w' = w.drewN k := by
  have hlt := hp.lt
  obtain ⟨bb, off, rfl, hB, hcell⟩ := h.at_ (by omega)
  obtain ⟨f, hf, f1, f2, fo⟩ := hp.frac hn
  have F4 := fun w => run_convert_float_int (P := Try.prog) w 27 3 .f64 .i64 P _ (by rw [Try.underlying27]; rfl) Try.underlying3 (toInt_fin hp.le hp.fin hp.neg (by omega))
  have HP := Lib.hid hp
  have HF := Lib.hid hf
  have HFO := Lib.hid fo
  obtain ⟨F, hF⟩ : ∃ F, fiB P = F := ⟨_, rfl⟩
  obtain ⟨I, hI⟩ : ∃ I, floatOfInt FloatKind.f64 ((F : Nat) : Int) = I := ⟨_, rfl⟩
  rw [hF] at F4 hlt hf
  rw [hI] at hf
  have F2 := fun w => run_float_arith (P := Try.prog) w .sub 27 .f64 P I f hf
  have q0 := hcell F hlt
  have hmem : ∀ j, j < n → xs.getD j 0 ∈ xs := fun j hj => by rw [List.getD_eq_getElem?_getD, List.getElem?_eq_getElem (by rw [h.len]; exact hj)]; exact List.getElem_mem _
  have lo1 := h.fit _ (hmem F hlt)
  have i0 : (0 : Int) ≤ (F : Int) := by omega
  have i1 : (F : Int) < (n : Int) := by omega
  obtain ⟨l, hl⟩ : ∃ l, n = l + 1 := ⟨n - 1, by omega⟩
  have s1 : (n : Int) - 1 = (l : Int) := by omega
  have HX := Lib.hid hx
  have HFF := Lib.hid hF
  by_cases h0 : szB f = 0
  · have F3 := ord_z f1 h0
    have HE := Lib.hid (betV_lo (xs := xs) (n := n) HF.out (.inl h0))
    rw [hF] at HE
    generalize xs.getD F 0 = lo at q0 lo1 HE
    clear hcell h hmem hp hf fo hF hx hs HF h0
    go_enter Try.func56, Try.ntmps56
    go_wp2
    go_ret
    exact ⟨lo, rfl, lo1, HE.out.symm, 0, rfl⟩
  · have F3 := hp.gt fo h0
    rcases Nat.lt_or_ge (F + 1) n with h2 | h2
    · have q1 := hcell (F + 1) h2
      have hi1 := h.fit _ (hmem (F + 1) h2)
      have d1 : ((F : Int) == (l : Int)) = false := beq_eq_false_iff_ne.2 (by omega)
      have i2 : (F : Int) + 1 < (n : Int) := by omega
      have i3 : (0 : Int) ≤ (F : Int) + 1 := by omega
      have c1 : IntKind.i64.wrap ((F : Int) + 1) = ((F + 1 : Nat) : Int) := by rw [IntWalk.i64_in _ (by omega)]; push_cast; rfl
      have hle := srt_iff.1 hs F (F + 1) (by omega) (by rw [h.len]; exact h2)
      have nlo := hx _ (hmem F hlt)
      have nhi := hx _ (hmem (F + 1) h2)
      have HB1 : Hid (∀ d m, floatBits .sub .f64 (xs.getD (F + 1) 0) (xs.getD F 0) = some d → floatBits .mul .f64 f d = some m → sameB (xs.getD F 0) (xs.getD (F + 1) 0) = false → betV xs n P = fop .add (canB (xs.getD F 0)) (canB m)) := Lib.hid (fun d m e1 e2 e3 => by
        have := betV_up (xs := xs) (n := n) (d := d) (m := m) HF.out (by rw [hF]; exact e1) e2 (by rw [hF, e3]; simp; exact ⟨h0, by omega⟩)
        rwa [hF] at this)
      have HB2 : Hid (sameB (xs.getD F 0) (xs.getD (F + 1) 0) = true → betV xs n P = canB (xs.getD F 0)) := Lib.hid (fun e3 => by
        have := betV_lo (xs := xs) (n := n) HF.out (.inr (.inr (by rw [hF]; exact e3)))
        rwa [hF] at this)
      generalize xs.getD F 0 = lo at *
      generalize xs.getD (F + 1) 0 = hi at *
      have HSM := Lib.hid (sameP_any w lo hi lo1 hi1)
      have ff := hp.fin
      have f3 : szB f < 9218868437227405312 := by omega
      cases hsm : sameB lo hi with
      | true =>
        have HE := Lib.hid (HB2.out hsm)
        rw [hsm] at HSM
        clear hcell h hmem hp hf fo hF hx hs HF h0 hle nlo nhi HB1 HB2 hsm
        go_enter Try.func56, Try.ntmps56
        go_wp2_with fail
        with_reducible refine (HSM.out).mono ?_
        rintro e w2 ⟨rfl, rfl⟩
        go_wp2
        go_ret
        exact ⟨lo, rfl, lo1, HE.out.symm, 0, rfl⟩
      | false =>
        have hlt2 : idxB lo < idxB hi := by
          unfold sameB at hsm
          have := beq_eq_false_iff_ne.1 hsm
          omega
        obtain ⟨d, hd, d2, d3⟩ := sub_ord hi1 lo1 nhi nlo hlt2
        obtain ⟨m, hm, m2⟩ := mul_some f1 d2 f3 h0 d3
        have HE := Lib.hid (HB1.out d m hd hm hsm)
        have F5 := fun w => run_float_arith (P := Try.prog) w .sub 27 .f64 hi lo d hd
        have F6 := fun w => run_float_arith (P := Try.prog) w .mul 27 .f64 f d m hm
        rw [hsm] at HSM
        clear hcell h hmem hp hf fo hF hx hs HF h0 hle nlo nhi HB1 HB2 hsm hlt2 hd hm
        go_enter Try.func56, Try.ntmps56
        go_wp2_with fail
        with_reducible refine (HSM.out).mono ?_
        rintro e w2 ⟨rfl, rfl⟩
        go_wp2_with (refine upon_float rfl ?_; intro v k lv cv)
        go_ret
        exact ⟨v, rfl, lv, cv.out.trans HE.out.symm, k, rfl⟩
    · have d1 : ((F : Int) == (l : Int)) = true := by rw [beq_iff_eq]; omega
      have HE := Lib.hid (betV_lo (xs := xs) (n := n) HF.out (.inr (.inl (by rw [hF]; omega))))
      rw [hF] at HE
      generalize xs.getD F 0 = lo at q0 lo1 HE
      clear hcell h hmem hp hf fo hF hx hs HF h0
      go_enter Try.func56, Try.ntmps56
      go_wp2
      go_ret
      exact ⟨lo, rfl, lo1, HE.out.symm, 0, rfl⟩
end Go.Proofs.Ytffibfnagoagcaa
