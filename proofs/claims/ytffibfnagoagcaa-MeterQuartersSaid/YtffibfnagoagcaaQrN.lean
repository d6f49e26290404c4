/- Quantiles: what stands at a place, told by its value. -/
import Derived.Test.YtffibfnagoagcaaQrM
namespace Go.Proofs.Ytffibfnagoagcaa
open Ieee
set_option maxRecDepth 100000
set_option linter.unusedVariables false

theorem ws_gen {k j : Nat} (h0 : 0 < k) (hk : k < 9007199254740992) : ∃ s, WS s = k * 2 ^ j := by
  have l1 : k < 2 ^ (k.log2 + 1) := Nat.lt_log2_self
  have l2 : 2 ^ k.log2 ≤ k := Nat.log2_self_le (by omega)
  generalize hl : k.log2 = l at *
  have hl53 : l < 53 := by
    rcases Nat.lt_or_ge l 53 with q | q
    · exact q
    · exfalso
      have : 2 ^ 53 ≤ 2 ^ l := Nat.pow_le_pow_right (by omega) q
      rw [K53] at this
      omega
  rcases Nat.lt_or_ge (j + l) 52 with hc | hc
  · have e1 : k * 2 ^ j < 2 ^ 52 := by
      have h1 : k * 2 ^ j < 2 ^ (l + 1) * 2 ^ j := Nat.mul_lt_mul_of_pos_right l1 (pow_pos2 _)
      rw [← Nat.pow_add] at h1
      exact Nat.lt_of_lt_of_le h1 (Nat.pow_le_pow_right (by omega) (by omega))
    have e52 : (2 : Nat) ^ 52 = 4503599627370496 := by decide
    rw [e52] at e1
    refine ⟨k * 2 ^ j, ?_⟩
    generalize k * 2 ^ j = N at *
    have hp : pS N = 0 := by unfold pS; omega
    have hm := manS_pS N
    rw [hp, Nat.zero_mul, Nat.zero_add] at hm
    unfold WS
    rw [hp, Nat.pow_zero, Nat.mul_one]
    exact hm.symm
  · have e1 : 2 ^ (l + 1) * 2 ^ (52 - l) = 9007199254740992 := by rw [← Nat.pow_add, show l + 1 + (52 - l) = 53 by omega, K53]
    have e2 : 2 ^ l * 2 ^ (52 - l) = 4503599627370496 := by rw [← Nat.pow_add, show l + (52 - l) = 52 by omega]
    have m1 : k * 2 ^ (52 - l) < 9007199254740992 := by rw [← e1]; exact Nat.mul_lt_mul_of_pos_right l1 (pow_pos2 _)
    have m2 : 4503599627370496 ≤ k * 2 ^ (52 - l) := by rw [← e2]; exact Nat.mul_le_mul_right _ l2
    have e3 : k * 2 ^ j = k * 2 ^ (52 - l) * 2 ^ (j - (52 - l)) := by rw [Nat.mul_assoc, ← Nat.pow_add, show 52 - l + (j - (52 - l)) = j by omega]
    rw [e3]
    generalize k * 2 ^ (52 - l) = m at *
    generalize j - (52 - l) = p at *
    have hp : pS (p * 4503599627370496 + m) = p := by unfold pS; omega
    have hm := manS_pS (p * 4503599627370496 + m)
    rw [hp] at hm
    refine ⟨p * 4503599627370496 + m, ?_⟩
    unfold WS
    rw [hp, show manS (p * 4503599627370496 + m) = m by omega]
/-- The part of a place behind its whole number is a float. -/
theorem frac_S (s : Nat) : ∃ t, WS t = WS s % 2 ^ cE := by
  have hlt := manS_lt' s
  unfold WS
  rcases Nat.lt_or_ge (pS s) cE with h | h
  · have e : 2 ^ cE = 2 ^ (cE - pS s) * 2 ^ pS s := by rw [← Nat.pow_add, show cE - pS s + pS s = cE by omega]
    have e2 : manS s * 2 ^ pS s % 2 ^ cE = manS s % 2 ^ (cE - pS s) * 2 ^ pS s := by rw [e, Nat.mul_mod_mul_right]
    rw [e2]
    have h2 := Nat.mod_le (manS s) (2 ^ (cE - pS s))
    rcases Nat.eq_zero_or_pos (manS s % 2 ^ (cE - pS s)) with z | z
    · rw [z, Nat.zero_mul]
      exact ⟨0, WS_zero⟩
    · exact ws_gen z (by omega)
  · have e : 2 ^ pS s = 2 ^ (pS s - cE) * 2 ^ cE := by rw [← Nat.pow_add, show pS s - cE + cE = pS s by omega]
    rw [e, ← Nat.mul_assoc, Nat.mul_mod_left]
    exact ⟨0, WS_zero⟩
theorem frac_exact {P f : Nat} (o : Op1 ((WS (szB P) % 2 ^ cE : Nat) : Int) (2 ^ cE) f) : WS (szB f) = WS (szB P) % 2 ^ cE ∧ szB f < 4607182418800017408 := by
  obtain ⟨t, ht⟩ := frac_S (szB P)
  have hr := o.rd
  rw [Int.natAbs_natCast, ← ht] at hr
  have h1 := hr.le_S cE_pos (Nat.le_refl _)
  have hlt : WS t < WS 4607182418800017408 := by rw [ht, one_S]; exact Nat.mod_lt _ cE_pos
  have h3 := WS_lt.1 hlt
  have h2 := hr.S_le (t := t) cE_pos (Nat.le_refl _) (by omega)
  have e : szB f = t := by omega
  rw [e]
  exact ⟨ht, h3⟩
theorem op_exact {x : Nat} (hx : x ≤ 18446744073709551615) (fx : szB x < 9218868437227405312) : Op1 (VB x) (2 ^ cE) x := by
  have hrd : Rd (WS (szB x)) (2 ^ cE) (szB x) := ⟨pS (szB x), nrmS _, by rw [fl_S, Nat.min_eq_left (by omega)]⟩
  unfold VB
  refine ⟨hx, ?_, ?_, ?_⟩
  · split
    · rw [Int.natAbs_neg, Int.natAbs_natCast]; exact hrd
    · rw [Int.natAbs_natCast]; exact hrd
  · intro h
    rcases hn : negB x with _ | _
    · rw [hn] at h; simp at h; omega
    · rfl
  · intro h
    rcases hn : negB x with _ | _
    · rfl
    · rw [hn] at h; simp at h; omega
theorem Op1.mono {T T' : Int} {r r' : Nat} (h : Op1 T (2 ^ cE) r) (h' : Op1 T' (2 ^ cE) r') (hle : T ≤ T') : VB r ≤ VB r' := by
  have z0 : ∀ {t : Int} {q : Nat}, Op1 t (2 ^ cE) q → t = 0 → szB q = 0 := fun hh e => by
    have := hh.rd.le_S (t := 0) cE_pos (by rw [e]; simp)
    omega
  have vpos : ∀ {t : Int} {q : Nat}, Op1 t (2 ^ cE) q → 0 ≤ t → VB q = (WS (szB q) : Int) := fun {t q} hh e => by
    rcases Int.lt_or_le 0 t with g | g
    · exact VB_pos (hh.pos g)
    · have := z0 hh (by omega)
      unfold VB; rw [this, WS_zero]; split <;> rfl
  have vneg : ∀ {t : Int} {q : Nat}, Op1 t (2 ^ cE) q → t < 0 → VB q = -(WS (szB q) : Int) := fun hh e => VB_neg (hh.neg e)
  rcases Int.lt_or_le T 0 with g | g
  · rw [vneg h g]
    rcases Int.lt_or_le T' 0 with g' | g'
    · rw [vneg h' g']
      have := h'.rd.mono h.rd cE_pos cE_pos (Nat.mul_le_mul_right _ (by omega))
      have := WS_le.2 this
      omega
    · rw [vpos h' g']; omega
  · rw [vpos h g, vpos h' (by omega)]
    have := h.rd.mono h'.rd cE_pos cE_pos (Nat.mul_le_mul_right _ (by omega))
    have := WS_le.2 this
    omega
theorem idx_val {a b : Nat} (na : nanB a = false) (nb : nanB b = false) (h : idxB a ≤ idxB b) : VB a ≤ VB b := by
  have la := of_decide_eq_false na
  have lb := of_decide_eq_false nb
  have ka : kindB a ≠ 4 := fun h => by rw [(kind4 a).1 h] at na; cases na
  have kb : kindB b ≠ 4 := fun h => by rw [(kind4 b).1 h] at nb; cases nb
  rcases ga : negB a with _ | _ <;> rcases gb : negB b with _ | _
  · rw [VB_pos ga, VB_pos gb]
    rw [idxB_pos ka ga, idxB_pos kb gb] at h
    have := WS_le.2 (show szB a ≤ szB b by omega)
    omega
  · exfalso
    rw [idxB_pos ka ga, idxB_neg kb gb] at h
    omega
  · rw [VB_neg ga, VB_pos gb]; omega
  · rw [VB_neg ga, VB_neg gb]
    rw [idxB_neg ka ga, idxB_neg kb gb] at h
    have := WS_le.2 (show szB b ≤ szB a by omega)
    omega
/-- Numbers that are finite and not too great. -/
def NtG (x : Nat) : Prop := x ≤ 18446744073709551615 ∧ szB x < 9110782046170513408
theorem NtG.fin {x : Nat} (h : NtG x) : szB x < 9218868437227405312 := by have := h.2; omega
theorem NtG.nan {x : Nat} (h : NtG x) : nanB x = false := decide_eq_false (by have := h.2; omega)
/-- What stands at a place: the lower number, or between. -/
theorem bet_way {xs : List Nat} {n P : Nat} (h : PlP P n) (hn : n ≤ 4096) (hl : xs.length = n) (hx : ∀ x ∈ xs, NtG x) (hs : Srt xs) :
    ((fiB P + 1 = n ∨ sameB (xs.getD (fiB P) 0) (xs.getD (fiB P + 1) 0) = true) ∧ betV xs n P = xs.getD (fiB P) 0) ∨
    ¬ (fiB P + 1 = n ∨ sameB (xs.getD (fiB P) 0) (xs.getD (fiB P + 1) 0) = true) ∧ ∃ r sm sd, betV xs n P = r ∧ Rd (VB (xs.getD (fiB P + 1) 0) - VB (xs.getD (fiB P) 0)).natAbs (2 ^ cE) sd ∧ Rd ((WS (szB P) % 2 ^ cE) * WS sd) (2 ^ cE * 2 ^ cE) sm ∧ Op1 (VB (xs.getD (fiB P) 0) + (WS sm : Int)) (2 ^ cE) r ∧ ((WS sm : Int) ≤ VB (xs.getD (fiB P + 1) 0) - VB (xs.getD (fiB P) 0)) ∧ szB r < 9218868437227405312 := by
  have hlt := h.lt
  obtain ⟨f, hf, f1, f2, fo⟩ := h.frac hn
  obtain ⟨fe, f3⟩ := frac_exact fo
  have hmem : ∀ j, j < n → xs.getD j 0 ∈ xs := fun j hj => by rw [List.getD_eq_getElem?_getD, List.getElem?_eq_getElem (by omega)]; exact List.getElem_mem _
  have hlo := hx _ (hmem _ hlt)
  by_cases hc : fiB P + 1 = n ∨ sameB (xs.getD (fiB P) 0) (xs.getD (fiB P + 1) 0) = true
  · refine .inl ⟨hc, ?_⟩
    rw [betV_lo hf (.inr hc), can_fin hlo.nan]
  · refine .inr ⟨hc, ?_⟩
    have h2 : fiB P + 1 < n := by
      rcases Nat.lt_or_ge (fiB P + 1) n with g | g
      · exact g
      · exact absurd (.inl (by omega)) hc
    have hhi := hx _ (hmem _ h2)
    have hle := srt_iff.1 hs (fiB P) (fiB P + 1) (by omega) (by omega)
    have hsm : sameB (xs.getD (fiB P) 0) (xs.getD (fiB P + 1) 0) = false := by
      rcases hb : sameB (xs.getD (fiB P) 0) (xs.getD (fiB P + 1) 0) with _ | _
      · rfl
      · exact absurd (.inr hb) hc
    have hidx : idxB (xs.getD (fiB P) 0) < idxB (xs.getD (fiB P + 1) 0) := by
      unfold sameB at hsm
      have := beq_eq_false_iff_ne.1 hsm
      omega
    have hB1 : szB f = 0 → betV xs n P = canB (xs.getD (fiB P) 0) := fun e => betV_lo hf (.inl e)
    have hB2 : ∀ d m, floatBits .sub .f64 (xs.getD (fiB P + 1) 0) (xs.getD (fiB P) 0) = some d → floatBits .mul .f64 f d = some m → szB f ≠ 0 → betV xs n P = fop .add (canB (xs.getD (fiB P) 0)) (canB m) := fun d m e1 e2 e3 => betV_up hf e1 e2 (by
      intro g
      rcases g with g | g
      · exact e3 g
      · exact hc g)
    generalize xs.getD (fiB P) 0 = lo at *
    generalize xs.getD (fiB P + 1) 0 = hi at *
    have hVB := idx_val hlo.nan hhi.nan hle
    obtain ⟨d, hd, od⟩ := sub_op hhi.1 hlo.1 hhi.fin hlo.fin
    have hdlim : szB d < 9218868437227405312 := by
      have hv : ∀ {x : Nat}, NtG x → (VB x).natAbs ≤ WS 9110782046170513408 := fun {x} hh => by
        have := WS_le.2 (Nat.le_of_lt hh.2)
        unfold VB; split <;> simp <;> omega
      have h1 := hv hhi
      have h2 := hv hlo
      have h3 : WS 9115285645797883904 = 2 * WS 9110782046170513408 := by
        have e1 : pS 9115285645797883904 = pS 9110782046170513408 + 1 := by decide
        have e2 : manS 9115285645797883904 = manS 9110782046170513408 := by decide
        unfold WS
        rw [e1, e2, Nat.pow_succ]
        generalize 2 ^ pS 9110782046170513408 = y
        rw [Nat.mul_comm 2, Nat.mul_assoc]
      have h4 := od.rd.le_S (t := 9115285645797883904) cE_pos (Nat.mul_le_mul_right _ (by rw [h3]; omega))
      omega
    obtain ⟨m, hm, m1, m2, m3⟩ := mul_op f1 od.le (show szB f < _ by omega) hdlim
    have hnatD : (VB hi - VB lo).natAbs = (VB hi - VB lo).toNat := by omega
    have hmD := mul_below od.rd m3 f3
    rw [fe] at m3
    have hmlim : szB m < 9218868437227405312 := by
      have h5 : szB m ≤ szB d := by
        refine m3.le_S (Nat.mul_pos cE_pos cE_pos) ?_
        rw [Nat.mul_comm (WS (szB P) % 2 ^ cE), Nat.mul_assoc]
        exact Nat.mul_le_mul_left _ (Nat.mul_le_mul_right _ (Nat.le_of_lt (Nat.mod_lt _ cE_pos)))
      omega
    have hVm : VB m = (WS (szB m) : Int) := by
      rcases hn : negB m with _ | _
      · exact VB_pos hn
      · have hz : szB m = 0 := by
          rw [m2] at hn
          have : WS (szB P) % 2 ^ cE * WS (szB d) = 0 := by
            rcases Nat.eq_zero_or_pos (WS (szB P) % 2 ^ cE) with e | e
            · rw [e, Nat.zero_mul]
            · have nf := fo.pos (by omega)
              rw [nf] at hn
              have nd : negB d = true := by simpa using hn
              have : VB hi - VB lo = 0 := by
                rcases Int.lt_or_le 0 (VB hi - VB lo) with g | g
                · have := od.pos g; rw [nd] at this; cases this
                · omega
              have hz := od.rd
              rw [this] at hz
              have h6 := hz.le_S (t := 0) cE_pos (by simp)
              rw [show szB d = 0 by omega, WS_zero, Nat.mul_zero]
          have := m3.le_S (t := 0) (Nat.mul_pos cE_pos cE_pos) (by rw [this]; simp)
          omega
        unfold VB; rw [hz, WS_zero]; split <;> rfl
    have hmD' : (WS (szB m) : Int) ≤ VB hi - VB lo := by omega
    by_cases h0 : szB f = 0
    · refine ⟨lo, szB m, szB d, by rw [hB1 h0, can_fin hlo.nan], od.rd, m3, ?_, hmD', hlo.fin⟩
      have hT : WS (szB P) % 2 ^ cE = 0 := by rw [← fe, h0, WS_zero]
      have hz : szB m = 0 := by
        rw [hT, Nat.zero_mul] at m3
        have := m3.le_S (t := 0) (Nat.mul_pos cE_pos cE_pos) (by simp)
        omega
      rw [hz, WS_zero]
      have := op_exact hlo.1 hlo.fin
      simpa using this
    · obtain ⟨r, hr, orr⟩ := add_op hlo.1 m1 hlo.fin hmlim
      rw [hVm] at orr
      have hrfin : szB r < 9218868437227405312 := by
        have hv : ∀ {x : Nat}, NtG x → (VB x).natAbs ≤ WS 9110782046170513408 := fun {x} hh => by
          have := WS_le.2 (Nat.le_of_lt hh.2)
          unfold VB; split <;> simp <;> omega
        have h1 := hv hhi
        have h2 := hv hlo
        have h4 := orr.rd.le_S (t := 9110782046170513408) cE_pos (Nat.mul_le_mul_right _ (by omega))
        omega
      refine ⟨r, szB m, szB d, ?_, od.rd, m3, orr, hmD', hrfin⟩
      have nm : nanB m = false := decide_eq_false (by omega)
      rw [hB2 d m hd hm h0, can_fin hlo.nan, can_fin nm, fop_some hr, can_fin (decide_eq_false (by omega))]
/-- The value at a place lies between that of the number there and that of the next one. -/
theorem bet_val {xs : List Nat} {n P : Nat} (h : PlP P n) (hn : n ≤ 4096) (hl : xs.length = n) (hx : ∀ x ∈ xs, NtG x) (hs : Srt xs) :
    ∃ r, betV xs n P = r ∧ szB r < 9218868437227405312 ∧ VB (xs.getD (fiB P) 0) ≤ VB r ∧ (∀ j, fiB P < j → j < n → VB r ≤ VB (xs.getD j 0)) ∧ VB r ≤ VB (xs.getD (n - 1) 0) := by
  have hlt := h.lt
  have hmem : ∀ j, j < n → xs.getD j 0 ∈ xs := fun j hj => by rw [List.getD_eq_getElem?_getD, List.getElem?_eq_getElem (by omega)]; exact List.getElem_mem _
  have hsv : ∀ a b, a ≤ b → b < n → VB (xs.getD a 0) ≤ VB (xs.getD b 0) := fun a b hab hb => by
    rcases Nat.lt_or_ge a b with g | g
    · exact idx_val (hx _ (hmem a (by omega))).nan (hx _ (hmem b hb)).nan (srt_iff.1 hs a b g (by omega))
    · obtain rfl : a = b := by omega
      exact Int.le_refl _
  rcases bet_way h hn hl hx hs with ⟨_, e⟩ | ⟨hc, r, sm, sd, e, _, _, o, hm, hf⟩
  · exact ⟨_, e, (hx _ (hmem _ hlt)).fin, Int.le_refl _, fun j h1 h2 => hsv _ j (by omega) h2, hsv _ _ (by omega) (by omega)⟩
  · have h2 : fiB P + 1 < n := by
      rcases Nat.lt_or_ge (fiB P + 1) n with g | g
      · exact g
      · exact absurd (.inl (by omega)) hc
    have hlo := hx _ (hmem _ hlt)
    have hhi := hx _ (hmem _ h2)
    have k1 := (op_exact hlo.1 hlo.fin).mono o (by omega)
    have k2 := o.mono (op_exact hhi.1 hhi.fin) (by omega)
    exact ⟨r, e, hf, k1, fun j h3 h4 => Int.le_trans k2 (hsv _ j (by omega) h4), Int.le_trans k2 (hsv _ _ (by omega) (by omega))⟩
/-- A greater place has no lesser value. -/
theorem bet_mono {xs : List Nat} {n P Q : Nat} (h : PlP P n) (k : PlP Q n) (hPQ : WS (szB P) ≤ WS (szB Q)) (hn : n ≤ 4096) (hl : xs.length = n) (hx : ∀ x ∈ xs, NtG x) (hs : Srt xs) : VB (betV xs n P) ≤ VB (betV xs n Q) := by
  have hF : fiB P ≤ fiB Q := Nat.div_le_div_right hPQ
  rcases Nat.lt_or_ge (fiB P) (fiB Q) with g | g
  · obtain ⟨r, e, _, _, h4, _⟩ := bet_val h hn hl hx hs
    obtain ⟨r', e', _, h3, _, _⟩ := bet_val k hn hl hx hs
    rw [e, e']
    exact Int.le_trans (h4 _ g k.lt) h3
  · have hE : fiB P = fiB Q := by omega
    have hT : WS (szB P) % 2 ^ cE ≤ WS (szB Q) % 2 ^ cE := by
      have h1 := Nat.div_add_mod (WS (szB P)) (2 ^ cE)
      have h2 := Nat.div_add_mod (WS (szB Q)) (2 ^ cE)
      unfold fiB at hE
      rw [hE] at h1
      omega
    rcases bet_way h hn hl hx hs with ⟨c1, e⟩ | ⟨c1, r, sm, sd, e, od, om, o, _, _⟩ <;> rcases bet_way k hn hl hx hs with ⟨c2, e'⟩ | ⟨c2, r', sm', sd', e', od', om', o', _, _⟩
    · rw [e, e', hE]; exact Int.le_refl _
    · rw [hE] at c1; exact absurd c1 c2
    · rw [hE] at c1; exact absurd c2 c1
    · rw [e, e']
      rw [hE] at od o
      have hsd : sd = sd' := Nat.le_antisymm (od.mono od' cE_pos cE_pos (Nat.le_refl _)) (od'.mono od cE_pos cE_pos (Nat.le_refl _))
      subst hsd
      have hsm := om.mono om' (Nat.mul_pos cE_pos cE_pos) (Nat.mul_pos cE_pos cE_pos) (Nat.mul_le_mul_right _ (Nat.mul_le_mul_right _ hT))
      have := WS_le.2 hsm
      exact o.mono o' (by omega)
/-- The places of two shares. -/
theorem pl_mono {xs : List Nat} {p q P Q : Nat} (hp : p ≤ 18446744073709551615) (hq : q ≤ 18446744073709551615) (fp : szB p < 9218868437227405312) (fq : szB q < 9218868437227405312) (hle : WS (szB p) ≤ WS (szB q)) (hl : xs.length ≤ 4096)
    (hP : floatBits .mul .f64 p (floatOfInt FloatKind.f64 ((xs.length - 1 : Nat) : Int)) = some P) (hQ : floatBits .mul .f64 q (floatOfInt FloatKind.f64 ((xs.length - 1 : Nat) : Int)) = some Q) : WS (szB P) ≤ WS (szB Q) := by
  have hw := wh_int (z := ((xs.length - 1 : Nat) : Int)) (by omega)
  obtain ⟨P', e, _, _, o⟩ := mul_op hp hw.le fp hw.fin
  obtain ⟨Q', e', _, _, o'⟩ := mul_op hq hw.le fq hw.fin
  rw [hP] at e
  rw [hQ] at e'
  injection e with e
  injection e' with e'
  subst e
  subst e'
  exact WS_le.2 (o.mono o' (Nat.mul_pos cE_pos cE_pos) (Nat.mul_pos cE_pos cE_pos) (Nat.mul_le_mul_right _ (Nat.mul_le_mul_right _ hle)))
/-- The quantile at 0 is the first number. -/
theorem qua_0 {xs : List Nat} (h0 : xs.length ≠ 0) (hl : xs.length ≤ 4096) : ∃ P, quaP xs 0 = P ∧ fiB P = 0 ∧ WS (szB P) = 0 := by
  obtain ⟨P, e, _, hq⟩ := qua_pl (xs := xs) (q := 0) (by omega) (by decide) (by decide) h0 hl
  have hw := wh_int (z := ((xs.length - 1 : Nat) : Int)) (by omega)
  obtain ⟨P', e', _, _, o⟩ := mul_op (show 0 ≤ 18446744073709551615 by omega) hw.le (by decide) hw.fin
  rw [e] at e'
  injection e' with e'
  subst e'
  have hz : szB P = 0 := by
    have := o.le_S (t := 0) (Nat.mul_pos cE_pos cE_pos) (by rw [show szB 0 = 0 from rfl, WS_zero]; simp)
    omega
  refine ⟨P, hq, ?_, by rw [hz, WS_zero]⟩
  unfold fiB
  rw [hz, WS_zero, Nat.zero_div]
theorem qua_1 {xs : List Nat} (h0 : xs.length ≠ 0) (hl : xs.length ≤ 4096) : ∃ P, quaP xs 4607182418800017408 = P ∧ fiB P = xs.length - 1 := by
  obtain ⟨P, e, _, hq⟩ := qua_pl (xs := xs) (q := 4607182418800017408) (by omega) (by decide) (by decide) h0 hl
  have hw := wh_int (z := ((xs.length - 1 : Nat) : Int)) (by omega)
  have hS := int_S (n := xs.length - 1) (by omega)
  obtain ⟨P', e', _, _, o⟩ := mul_op (show 4607182418800017408 ≤ 18446744073709551615 by omega) hw.le (by decide) hw.fin
  rw [e] at e'
  injection e' with e'
  subst e'
  rw [show szB 4607182418800017408 = 4607182418800017408 by decide, one_S] at o
  have hc : ∀ a : Nat, 2 ^ cE * a * 2 ^ cE = a * (2 ^ cE * 2 ^ cE) := fun a => by ac_rfl
  have h1 := o.le_S (Nat.mul_pos cE_pos cE_pos) (Nat.le_of_eq (hc _))
  have h2 := o.S_le (Nat.mul_pos cE_pos cE_pos) (Nat.le_of_eq (hc _).symm) (Nat.le_of_lt hw.fin)
  refine ⟨P, hq, ?_⟩
  unfold fiB
  rw [Nat.le_antisymm h1 h2, hS, Nat.mul_div_cancel _ cE_pos]
/-- The least and the greatest of figures. -/
theorem least_is (a b : Nat) : (leastB a b = a ∨ leastB a b = b) ∧ idxB (leastB a b) ≤ idxB a ∧ idxB (leastB a b) ≤ idxB b := by
  unfold leastB
  rcases Nat.lt_trichotomy (idxB b) (idxB a) with h | h | h
  · rw [ordB_lt h, if_pos (by decide)]
    exact ⟨.inr rfl, by omega, Nat.le_refl _⟩
  · rw [ordB_eq h, if_neg (by decide)]
    exact ⟨.inl rfl, Nat.le_refl _, by omega⟩
  · rw [ordB_gt h, if_neg (by decide)]
    exact ⟨.inl rfl, Nat.le_refl _, by omega⟩
theorem most_is {a b : Nat} (na : nanB a = false) (nb : nanB b = false) : (mostB a b = a ∨ mostB a b = b) ∧ idxB a ≤ idxB (mostB a b) ∧ idxB b ≤ idxB (mostB a b) := by
  have ka : kindB a ≠ 4 := fun h => by rw [(kind4 a).1 h] at na; cases na
  have kb : kindB b ≠ 4 := fun h => by rw [(kind4 b).1 h] at nb; cases nb
  unfold mostB
  rw [if_neg ka, if_neg kb]
  rcases Nat.lt_trichotomy (idxB a) (idxB b) with h | h | h
  · rw [ordB_lt h, if_neg (by decide)]
    exact ⟨.inr rfl, by omega, Nat.le_refl _⟩
  · rw [ordB_eq h, if_neg (by decide)]
    exact ⟨.inr rfl, by omega, Nat.le_refl _⟩
  · rw [ordB_gt h, if_pos (by decide)]
    exact ⟨.inl rfl, Nat.le_refl _, by omega⟩
theorem all_low (xs : List Nat) : ∀ c : MV, nanB c.low = false → nanB c.high = false → (∀ x ∈ xs, nanB x = false) →
    nanB (addAll c xs).low = false ∧ nanB (addAll c xs).high = false ∧ ((addAll c xs).low = c.low ∨ (addAll c xs).low ∈ xs) ∧ ((addAll c xs).high = c.high ∨ (addAll c xs).high ∈ xs) ∧ idxB (addAll c xs).low ≤ idxB c.low ∧ idxB c.high ≤ idxB (addAll c xs).high ∧ ∀ x ∈ xs, idxB (addAll c xs).low ≤ idxB x ∧ idxB x ≤ idxB (addAll c xs).high := by
  induction xs with
  | nil => intro c h1 h2 _; exact ⟨h1, h2, .inl rfl, .inl rfl, Nat.le_refl _, Nat.le_refl _, by simp⟩
  | cons a l ih =>
    intro c h1 h2 h3
    have ha := h3 a (by simp)
    have e : addAll c (a :: l) = addAll (addC c a) l := by unfold addAll; rw [List.foldl_cons, can_fin ha]
    have el : (addC c a).low = canB (leastB c.low a) := by unfold addC; rw [ha, if_neg (by simp)]
    have eh : (addC c a).high = canB (mostB c.high a) := by unfold addC; rw [ha, if_neg (by simp)]
    obtain ⟨l1, l2, l3⟩ := least_is c.low a
    obtain ⟨m1, m2, m3⟩ := most_is h2 ha
    have nl : nanB (leastB c.low a) = false := by rcases l1 with e | e <;> rw [e] <;> assumption
    have nm : nanB (mostB c.high a) = false := by rcases m1 with e | e <;> rw [e] <;> assumption
    rw [can_fin nl] at el
    rw [can_fin nm] at eh
    obtain ⟨k1, k2, k3, k4, k5, k6, k7⟩ := ih (addC c a) (by rw [el]; exact nl) (by rw [eh]; exact nm) (fun x hx => h3 x (by simp [hx]))
    rw [e]
    rw [el] at k3 k5
    rw [eh] at k4 k6
    refine ⟨k1, k2, ?_, ?_, Nat.le_trans k5 l2, Nat.le_trans m2 k6, fun x hx => ?_⟩
    · rcases k3 with g | g
      · rcases l1 with q | q
        · exact .inl (g.trans q)
        · exact .inr (by rw [g, q]; simp)
      · exact .inr (by simp [g])
    · rcases k4 with g | g
      · rcases m1 with q | q
        · exact .inl (g.trans q)
        · exact .inr (by rw [g, q]; simp)
      · exact .inr (by simp [g])
    · rcases List.mem_cons.1 hx with rfl | hx
      · exact ⟨Nat.le_trans k5 l3, Nat.le_trans m3 k6⟩
      · exact k7 x hx
/-- The least and the greatest of some are the first and the last in order. -/
theorem low_srt {xs : List Nat} (h0 : xs.length ≠ 0) (hx : ∀ x ∈ xs, NtG x) : (addAll newM.can xs).low = (srtV xs).getD 0 0 ∧ (addAll newM.can xs).high = (srtV xs).getD (xs.length - 1) 0 := by
  obtain ⟨k1, k2, k3, k4, k5, k6, k7⟩ := all_low xs newM.can (by decide) (by decide) (fun x h => (hx x h).nan)
  have hlen : (srtV xs).length = xs.length := (srtV_perm xs).length_eq
  have hmem : ∀ j, j < xs.length → (srtV xs).getD j 0 ∈ xs := fun j hj => by
    refine (srtV_perm xs).mem_iff.1 ?_
    rw [List.getD_eq_getElem?_getD, List.getElem?_eq_getElem (by omega)]; exact List.getElem_mem _
  have hidx : ∀ x ∈ xs, idxB x < idxB newM.can.low ∧ idxB newM.can.high < idxB x := fun x h => by
    have hh := hx x h
    have kx : kindB x ≠ 4 := fun e => by have := hh.nan; rw [(kind4 x).1 e] at this; cases this
    have e1 : idxB newM.can.low = 18437736874454810625 := by decide
    have e2 : idxB newM.can.high = 0 := by decide
    rw [e1, e2]
    have := hh.fin
    rcases g : negB x with _ | _
    · rw [idxB_pos kx g]; omega
    · rw [idxB_neg kx g]; omega
  have hat : ∀ x ∈ xs, idxB ((srtV xs).getD 0 0) ≤ idxB x ∧ idxB x ≤ idxB ((srtV xs).getD (xs.length - 1) 0) := fun x h => by
    obtain ⟨j, hj, hjx⟩ := List.getElem_of_mem ((srtV_perm xs).mem_iff.2 h)
    have e : (srtV xs).getD j 0 = x := by rw [List.getD_eq_getElem?_getD, List.getElem?_eq_getElem hj, hjx]; rfl
    have hs := srt_iff.1 (srtV_srt xs)
    constructor
    · rcases Nat.eq_zero_or_pos j with g | g
      · rw [← e, g]; exact Nat.le_refl _
      · rw [← e]; exact hs 0 j g hj
    · rcases Nat.lt_or_ge j (xs.length - 1) with g | g
      · rw [← e]; exact hs j _ g (by omega)
      · rw [← e, show j = xs.length - 1 by omega]; exact Nat.le_refl _
  have f0 := hmem 0 (by omega)
  have f1 := hmem (xs.length - 1) (by omega)
  have hl : (addAll newM.can xs).low ∈ xs := by
    rcases k3 with g | g
    · have := (k7 _ f0).1; have := (hidx _ f0).1; rw [g] at *; omega
    · exact g
  have hh : (addAll newM.can xs).high ∈ xs := by
    rcases k4 with g | g
    · have := (k7 _ f0).2; have := (hidx _ f0).2; rw [g] at *; omega
    · exact g
  constructor
  · exact idx_inj (hx _ hl).1 (hx _ f0).1 (hx _ hl).nan (hx _ f0).nan (Nat.le_antisymm (k7 _ f0).1 (hat _ hl).1)
  · exact idx_inj (hx _ hh).1 (hx _ f1).1 (hx _ hh).nan (hx _ f1).nan (Nat.le_antisymm (hat _ hh).2 (k7 _ f1).2)
/-- The order of the list doesn't matter. -/
theorem srtV_same {xs ys : List Nat} (h : ys.Perm xs) (hx : ∀ x ∈ xs, NtG x) : srtV ys = srtV xs :=
  srtV_eq ((srtV_perm ys).trans h) (srtV_srt ys) (fun x hh => ⟨(hx x hh).1, (hx x hh).nan⟩)
theorem quaE_same {xs ys : List Nat} (h : ys.Perm xs) (hx : ∀ x ∈ xs, NtG x) (q : Nat) : quaE ys q = quaE xs q := by
  unfold quaE quaP
  have e : ys.any nanB = xs.any nanB := by
    have h1 : xs.any nanB = false := by
      rcases hb : xs.any nanB with _ | _
      · rfl
      · obtain ⟨x, h2, h3⟩ := List.any_eq_true.1 hb
        rw [(hx x h2).nan] at h3; cases h3
    have h2 : ys.any nanB = false := by
      rcases hb : ys.any nanB with _ | _
      · rfl
      · obtain ⟨x, h2, h3⟩ := List.any_eq_true.1 hb
        rw [(hx x (h.mem_iff.1 h2)).nan] at h3; cases h3
    rw [h1, h2]
  rw [h.length_eq, e, srtV_same h hx]
end Go.Proofs.Ytffibfnagoagcaa
