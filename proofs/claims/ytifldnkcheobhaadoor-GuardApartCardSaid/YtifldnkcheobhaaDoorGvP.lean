/- GuardApart: the mathematics. -/
import Derived.Test.YtifldnkcheobhaaDoorGvI
namespace Go.Proofs.YtifldnkcheobhaaDoor
open Go.RowKit
set_option maxRecDepth 100000
set_option linter.unusedVariables false
set_option linter.unusedSimpArgs false
set_option maxHeartbeats 4000000

theorem umod (x : Int) (m : Nat) (h0 : 0 < m) (hm : m < 1000000) : ∃ (s t : Nat), IntKind.u64.wrap x = (s : Int) ∧ Int.tmod (s : Int) (m : Int) = (t : Int) ∧ t < m ∧ IntKind.u64.wrap (t : Int) = (t : Int) ∧ IntKind.i64.wrap (t : Int) = (t : Int) := by
  obtain ⟨s, hs⟩ : ∃ s : Nat, x % 18446744073709551616 = (s : Int) := ⟨(x % 18446744073709551616).toNat, by omega⟩
  have hlt : s % m < m := Nat.mod_lt _ h0
  refine ⟨s, s % m, by rw [IntKind.wrap_u64]; exact hs, ?_, hlt, IntWalk.u64_in _ (by omega), IntWalk.i64_in _ (by omega)⟩
  rw [Int.tmod_eq_emod_of_nonneg (by omega)]
  exact (Int.natCast_emod s m).symm
/-- The strikes ahead of round n. -/
def stA (gs : List GH) (k n : Nat) : Nat → Int := fun i =>
  match gs[i]? with
  | some g => if badV g.p = true then ((min (n - 1) k : Nat) : Int) else 0
  | none => 0
theorem stA_one (gs : List GH) (k : Nat) : stA gs k 1 = fun _ => 0 := by
  funext i
  unfold stA
  cases gs[i]? with
  | none => rfl
  | some g => simp
theorem stA_nonneg (gs : List GH) (k n i : Nat) (hk : k ≤ 1000) : 0 ≤ stA gs k n i ∧ stA gs k n i ≤ 1000000 := by
  unfold stA
  cases gs[i]? with
  | none => simp
  | some g => simp only; split <;> omega
theorem after_A (gs : List GH) (k n : Nat) (hk : 1 ≤ k) (hn : 1 ≤ n) : afterV gs (stA gs k n) (k : Int) gs.length = stA gs k (n + 1) := by
  funext i
  unfold afterV
  rcases Nat.lt_or_ge i gs.length with h | h
  · rw [if_pos h]
    obtain ⟨g, hg⟩ : ∃ g, gs[i]? = some g := ⟨gs[i], List.getElem?_eq_getElem h⟩
    unfold hitV stA
    rw [hg]
    simp only
    unfold stN
    by_cases hb : badV g.p = true
    · simp only [hb, if_true]
      split <;> omega
    · have hb' : badV g.p = false := by simpa using hb
      simp only [hb', Bool.false_eq_true, if_false]
      split <;> rfl
  · rw [if_neg (by omega)]
    unfold stA
    rw [List.getElem?_eq_none h]
/-- What round n tells of a hook. -/
theorem fire_A (gs : List GH) (k n i : Nat) (hk : 1 ≤ k) (hn : 1 ≤ n) (g : GH) (hg : gs[i]? = some g) :
    (badV g.p = true ∧ k < n → fireV gs (stA gs k n) (k : Int) i = []) ∧ (¬ (badV g.p = true ∧ k < n) → fireV gs (stA gs k n) (k : Int) i = [⟨g.nm, (runP g.p).st.marks, (outV g.p).1, (outV g.p).2, badV g.p && decide (n = k)⟩]) := by
  unfold fireV stA
  rw [hg]
  simp only
  by_cases hb : badV g.p = true
  · simp only [hb, if_true, true_and, Bool.true_and]
    refine ⟨fun h => if_neg (by omega), fun h => ?_⟩
    rw [if_pos (by omega)]
    have e : (!decide (stN g.p ((min (n - 1) k : Nat) : Int) < (k : Int))) = decide (n = k) := by
      unfold stN
      rw [if_pos hb]
      rw [Bool.eq_iff_iff]
      simp
      omega
    unfold repV
    rw [e]
  · have hb' : badV g.p = false := by simpa using hb
    simp only [hb', Bool.false_eq_true, if_false, false_and, not_false_eq_true, Bool.false_and]
    refine ⟨fun h => h.elim, fun _ => ?_⟩
    rw [if_pos (by omega)]
    have e : (!decide (stN g.p 0 < (k : Int))) = false := by
      unfold stN
      rw [if_neg hb]
      simp
      omega
    unfold repV
    rw [e]
theorem fires_at (gs : List GH) (st : Nat → Int) (k : Int) (i : Nat) (r : RepC) (h : fireV gs st k i = [r]) : ∀ m, i < m → (firesV gs st k m)[(firesV gs st k i).length]? = some r := by
  intro m hm
  induction m with
  | zero => omega
  | succ m ih =>
    rw [firesV_succ]
    by_cases e : i = m
    · subst e
      rw [h]
      simp
    · have := ih (by omega)
      rw [List.getElem?_append_left (List.getElem?_eq_some_iff.1 this).1]
      exact this
theorem fires_mono (gs : List GH) (st : Nat → Int) (k : Int) (i : Nat) : ∀ m, i ≤ m → (firesV gs st k i).length ≤ (firesV gs st k m).length := by
  intro m hm
  induction m with
  | zero => obtain rfl : i = 0 := by omega
            exact Nat.le_refl _
  | succ m ih =>
    by_cases e : i = m + 1
    · subst e; exact Nat.le_refl _
    · rw [firesV_succ, List.length_append]
      have := ih (by omega)
      omega
theorem fires_le (gs : List GH) (st : Nat → Int) (k : Int) : ∀ m, (firesV gs st k m).length ≤ m := by
  intro m
  induction m with
  | zero => simp [firesV]
  | succ m ih =>
    rw [firesV_succ, List.length_append]
    have : (fireV gs st k m).length ≤ 1 := by
      unfold fireV
      split
      · split <;> simp
      · simp
    omega
theorem bad_iff (p : List (List ActV)) : badV p = ((((outV p).1 : Nat) : Int) != 0) := by
  unfold badV
  rw [Bool.eq_iff_iff]
  simp
end Go.Proofs.YtifldnkcheobhaaDoor
