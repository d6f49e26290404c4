/- BookRate: what is granted, as mathematics. -/
import Derived.Test.YtnkecjjfbllgdaaBkTop
namespace Go.Proofs.Ytnkecjjfbllgdaa
open Go.RowKit Go.Maps
set_option maxRecDepth 100000
set_option linter.unusedVariables false

/-- The TAT of the key that is watched. -/
def tatK (M : BkMap) : Nat := (getB M [0, 97]).tat
abbrev tabR (T Tau : Nat) : List PolM := [⟨1, (T : Int), (Tau : Int), 0⟩, polS]
/-- What is left, and what was granted. -/
structure RtI (T Tau f t : Nat) (M : BkMap) (now Lf : Nat) : Prop where
  ex : ∃ S, Lf + S = withV T Tau (t - f) ∧ BdOk T f S (max (tatK M) now)
theorem gr_max (T Tau tat now n : Nat) : grB T Tau (max tat now) now n = grB T Tau tat now n := by
  unfold grB leftV
  rw [show max (max tat now) now = max tat now by omega]
theorem RtI.stay {T Tau f t now0 now Lf : Nat} {M M' : BkMap} (h : RtI T Tau f t M now0 Lf) (hn : now0 ≤ now) (ho : max (tatK M) now ≤ max (tatK M') now) : RtI T Tau f t M' now Lf := by
  obtain ⟨S, h1, h2⟩ := h.ex
  exact ⟨S, h1, h2.stay (by omega)⟩
theorem RtI.take {T Tau f t now0 now Lf n : Nat} {M M' : BkMap} (h : RtI T Tau f t M now0 Lf) (hT : 1 ≤ T) (htat : tatK M ≤ 4611686018427387903) (hnow : now ≤ 4611686018427387903) (hn : now0 ≤ now)
    (hg : grB T Tau (tatK M) now n = true) (h1 : f ≤ now) (h2 : now ≤ t) (hM : tatK M' = tatV T Tau (tatK M) now n) : n ≤ Lf ∧ RtI T Tau f t M' now (Lf - n) := by
  obtain ⟨S, e1, e2⟩ := h.ex
  have e3 : BdOk T f S (max (tatK M) now) := e2.stay (by omega)
  have hg2 : grB T Tau (max (tatK M) now) now n = true := by rw [gr_max]; exact hg
  have e4 := e3.step hT (by omega) hnow hg2 h1 h2
  have e5 := e3.next hg2 h1
  have hle : n ≤ Lf := by unfold withV at e1; omega
  refine ⟨hle, S + n, by omega, e5.stay ?_⟩
  rw [hM]
  rcases Nat.eq_zero_or_pos n with rfl | hp
  · rw [tatV_zero, tatV_zero]; omega
  · rw [tatV_pos hg hp, tatV_pos hg2 hp, show max (max (tatK M) now) now = max (tatK M) now by omega]; omega
theorem tat_other {T Tau : Nat} {M : BkMap} (o p : Nat) (zs : List Nat) (N s : Int) (now : Nat) (h1 : o = 2 ∨ o = 3 → p = 1) (h : ¬ (o = 1 ∧ p :: zs = [0, 97])) :
    max (tatK (actM (tabR T Tau) M o p zs N now s)) now = max (tatK M) now := by
  unfold actM
  by_cases e5 : o = 5
  · rw [if_pos e5]
    unfold tatK getB evictB
    rcases hm : M [0, 97] with _ | c
    · rfl
    · by_cases hi : idleB c now = false
      · simp only [if_pos hi]
      · simp only [if_neg hi, Option.getD_none, Option.getD_some]
        unfold idleB at hi
        have : c.tat ≤ now := by
          rcases hd : decide (c.tat ≤ now) with _ | _
          · rw [hd] at hi; exact absurd rfl hi
          · exact of_decide_eq_true hd
        show max 0 now = max c.tat now
        omega
  · rw [if_neg e5]
    by_cases e6 : o = 6
    · rw [if_pos e6]
    · rw [if_neg e6]
      by_cases hz : p :: zs = [0, 97]
      · have hp : p = 0 := (List.cons.inj hz).1
        have : afterB M (p :: zs) (cellM ((tabR T Tau).getD p noPol) (getB M (p :: zs)) o N now s) = M := by
          have hc : cellM ((tabR T Tau).getD p noPol) (getB M (p :: zs)) o N now s = peekM ((tabR T Tau).getD p noPol) (getB M (p :: zs)) now := by
            unfold cellM
            rw [if_neg (show ¬ o = 1 from fun e => h ⟨e, hz⟩), if_neg (show ¬ o = 2 from fun e => by have := h1 (.inl e); omega), if_neg (show ¬ o = 3 from fun e => by have := h1 (.inr e); omega)]
          rw [hc]
          rfl
        rw [this]
      · have : getB (afterB M (p :: zs) (cellM ((tabR T Tau).getD p noPol) (getB M (p :: zs)) o N now s)) [0, 97] = getB M [0, 97] := by
          unfold afterB
          split
          · unfold getB putB
            rw [if_neg (fun e => hz e.symm)]
          · rfl
        unfold tatK
        rw [this]
theorem tat_allow {T Tau : Nat} {M : BkMap} (n now : Nat) (s : Int) : tatK (actM (tabR T Tau) M 1 0 [97] (n : Int) now s) = tatV T Tau (tatK M) now n := by
  rw [actM_lt _ _ _ _ _ _ _ _ (by omega)]
  have hc : cellM ((tabR T Tau).getD 0 noPol) (getB M [0, 97]) 1 (n : Int) now s = allowM ⟨1, (T : Int), (Tau : Int), 0⟩ (getB M [0, 97]) now n := by
    unfold cellM
    rw [if_pos rfl]
    rfl
  show tatK (afterB M [0, 97] _) = _
  rw [hc]
  unfold afterB allowM
  simp only [Int.toNat_natCast]
  by_cases hg : grB T Tau (getB M [0, 97]).tat now n = true ∧ 0 < n
  · rw [if_pos (by rw [hg.1, decide_eq_true hg.2]; rfl)]
    unfold tatK getB putB
    rw [if_pos rfl]
    rfl
  · rw [if_neg (by rw [Bool.and_eq_true, decide_eq_true_eq]; exact hg)]
    unfold tatV
    exact (if_neg hg).symm
theorem rep_allow {T Tau : Nat} {M : BkMap} (n now : Nat) (s : Int) : (cellM ((tabR T Tau).getD 0 noPol) (getB M [0, 97]) 1 (n : Int) now s).1.g = grB T Tau (tatK M) now n := by
  unfold cellM
  rw [if_pos rfl]
  rfl
theorem check_good {T Tau : Nat} (hT : 1 ≤ T) (hT2 : T ≤ 4611686018427387903) (hU : Tau ≤ 4611686018427387903) : checkV (T : Int) (Tau : Int) = 0 :=
  checkV_ok (by omega) (isTick_iff.2 (by omega)) (isTick_iff.2 (by omega))
theorem with_good {T Tau f t : Nat} (hT : 1 ≤ T) (hT2 : T ≤ 4611686018427387903) (hU : Tau ≤ 4611686018427387903) (hft : f ≤ t) (htt : t ≤ 4611686018427387903) : dwithV (T : Int) (Tau : Int) ((t : Int) - (f : Int)) = .tuple #[.int .i64 (withV T Tau (t - f) : Int), .int .i64 0] := by
  unfold dwithV
  rw [if_neg (by rw [check_good hT hT2 hU, isTick_iff.2 (show 0 ≤ (t : Int) - f ∧ (t : Int) - f ≤ 4611686018427387903 by omega)]; simp)]
  have e : ((t : Int) - (f : Int)).toNat = t - f := by omega
  rw [e]; rfl
theorem with_le (T Tau s : Nat) (hU : Tau ≤ 4611686018427387903) (hs : s ≤ 4611686018427387903) : withV T Tau s ≤ 9223372036854775807 := by
  unfold withV
  have := Nat.div_le_self (s + Tau) T
  omega
theorem tabR_ok {T Tau : Nat} (hT : 1 ≤ T) (hT2 : T ≤ 4611686018427387903) (hU : Tau ≤ 4611686018427387903) : (tabR T Tau).all polB = true := by
  have h1 : polB ⟨1, (T : Int), (Tau : Int), 0⟩ = true := by
    unfold polB
    rw [if_pos rfl, decide_eq_true (check_good hT hT2 hU)]
  simp only [tabR, List.all_cons, List.all_nil, h1]
  rfl
theorem tat_le {w : World} {b n c room mb k T Tau : Nat} {A : Option Addr} {M : BkMap} (h : BkX w b A n c (tabR T Tau) room mb k M) : tatK M ≤ 4611686018427387903 := by
  unfold tatK getB
  rcases hm : M [0, 97] with _ | c
  · simp [CelM.zero]
  · obtain ⟨p, zs, e, h1, h2, h3, h4⟩ := h.r.inf _ _ hm
    exact h4.tick
theorem RtI.start {T Tau f t : Nat} : RtI T Tau f t (fun _ => none) 0 (withV T Tau (t - f)) := ⟨0, rfl, .inl rfl⟩
end Go.Proofs.Ytnkecjjfbllgdaa
