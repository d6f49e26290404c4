/- What is asked is read again; used. -/
import Derived.Test.YtndgladfcogiiaaWrT
namespace Go.Proofs.Ytndgladfcogiiaa
open Go.RowKit
set_option maxRecDepth 100000
set_option linter.unusedVariables false
set_option maxHeartbeats 400000

/-- The fields alone that a call's form has. -/
def usedV (x : ClV) : ClV := if 4 < x.o then ⟨x.o, 0, 0, []⟩ else if x.o = 2 ∨ x.o = 4 then ⟨x.o, x.p, 0, x.ks⟩ else x
theorem rqC_ways {o : Nat} {p s : Int} {n : Nat} (h : rqC o p s n = 0) : (o = 5 ∨ o = 6) ∨ (polB p = true ∧ n ≤ 255 ∧ ((o = 1 ∧ tkB s = true) ∨ o = 2 ∨ (o = 3 ∧ serB s = true) ∨ o = 4)) := by
  unfold rqC at h
  split at h
  · rename_i g; exact .inl g
  split at h
  · simp at h
  split at h
  · simp at h
  split at h
  · simp at h
  rename_i g0 g1 g2 g3
  refine .inr ⟨?_, by omega, ?_⟩
  · cases hp : polB p
    · exact absurd (.inl hp) g2
    · rfl
  · rcases (by omega : o = 1 ∨ o = 2 ∨ o = 3 ∨ o = 4) with rfl | rfl | rfl | rfl
    · refine .inl ⟨rfl, ?_⟩
      cases hs : tkB s
      · exact absurd (.inr (.inl ⟨rfl, hs⟩)) g2
      · rfl
    · exact .inr (.inl rfl)
    · refine .inr (.inr (.inl ⟨rfl, ?_⟩))
      cases hs : serB s
      · exact absurd (.inr (.inr ⟨rfl, hs⟩)) g2
      · rfl
    · exact .inr (.inr (.inr rfl))
theorem rqB_max {o : Nat} {p s : Int} {zs : List Nat} (h : rqC o p s zs.length = 0) : (rqB o p s zs).length ≤ 4096 := by
  rcases rqC_ways h with (rfl | rfl) | ⟨_, hn, _⟩
  · simp [rqB]
  · simp [rqB]
  · unfold rqB
    split
    · simp [Tk.wordV_len]; omega
    split
    · simp [tokV_len]; omega
    split
    · simp; omega
    · simp
theorem toldV_self {o : Nat} {p s : Int} {ks : List Nat} (h : rqC o p s ks.length = 0) : toldV (rqB o p s ks) = some (usedV ⟨o, p, s, ks⟩) := by
  rcases rqC_ways h with (rfl | rfl) | ⟨hp, hn, ho⟩
  · rfl
  · rfl
  have hpp := polB_true hp
  obtain ⟨P, rfl⟩ : ∃ q : Nat, p = (q : Int) := ⟨p.toNat, by omega⟩
  rcases ho with ⟨rfl, hs⟩ | rfl | ⟨rfl, hs⟩ | rfl
  · have hss := tkB_true hs
    obtain ⟨S, rfl⟩ : ∃ q : Nat, s = (q : Int) := ⟨s.toNat, by omega⟩
    have e : rqB 1 (P : Int) (S : Int) ks = 1 :: P :: ks.length :: (ks ++ Tk.wordV S 8) := by simp [rqB]
    have e1 : (1 :: P :: ks.length :: (ks ++ Tk.wordV S 8)).drop 1 = P :: ks.length :: (ks ++ Tk.wordV S 8) := rfl
    have e2 : (P :: ks.length :: (ks ++ Tk.wordV S 8)).drop (2 + ks.length) = Tk.wordV S 8 := by
      rw [← List.drop_drop]
      show List.drop ks.length (ks ++ Tk.wordV S 8) = _
      rw [List.drop_left]
    have e3 : ((P :: ks.length :: (ks ++ Tk.wordV S 8)).drop 2).take ks.length = ks := by
      show List.take ks.length (ks ++ Tk.wordV S 8) = _
      rw [List.take_left]
    rw [e]
    unfold toldV
    rw [e1]
    simp only [List.length_cons, List.length_append, Tk.wordV_len, List.getD_cons_zero, List.getD_cons_succ, if_true]
    rw [if_neg (by omega), if_neg (by omega), e2, e3, List.take_of_length_le (by rw [Tk.wordV_len]; omega), Tk.numV_wordV, Nat.mod_eq_of_lt (by omega), IntWalk.i64_in _ (by omega)]
    simp [usedV]
  · have e : rqB 2 (P : Int) s ks = 2 :: P :: ks.length :: ks := by simp [rqB]
    have e1 : (2 :: P :: ks.length :: ks).drop 1 = P :: ks.length :: ks := rfl
    have e3 : ((P :: ks.length :: ks).drop 2).take ks.length = ks := by
      show List.take ks.length ks = _
      simp
    rw [e]
    unfold toldV
    rw [e1]
    simp only [List.length_cons, List.getD_cons_zero, List.getD_cons_succ]
    rw [if_neg (by omega), if_neg (by omega), if_pos (by simp), if_neg (by omega), e3]
    simp [usedV]
  · have hss := serB_true hs
    obtain ⟨S, rfl⟩ : ∃ q : Nat, s = (q : Int) := ⟨s.toNat, by omega⟩
    have e : rqB 3 (P : Int) (S : Int) ks = 3 :: tokV P ks S := by simp [rqB]
    have e1 : (3 :: tokV P ks S).drop 1 = tokV P ks S := rfl
    rw [e]
    unfold toldV
    rw [e1]
    simp only [List.length_cons, List.getD_cons_zero]
    rw [if_neg (by omega), if_neg (by omega), if_neg (by omega), if_pos trivial, if_pos (tokV_ok P ks S (by omega) (by omega) (by omega)), tokV_2, tokV_ser _ _ _ (by omega), tokV_key]
    simp [usedV]
  · have e : rqB 4 (P : Int) s ks = 4 :: P :: ks.length :: ks := by simp [rqB]
    have e1 : (4 :: P :: ks.length :: ks).drop 1 = P :: ks.length :: ks := rfl
    have e3 : ((P :: ks.length :: ks).drop 2).take ks.length = ks := by
      show List.take ks.length ks = _
      simp
    rw [e]
    unfold toldV
    rw [e1]
    simp only [List.length_cons, List.getD_cons_zero, List.getD_cons_succ]
    rw [if_neg (by omega), if_neg (by omega), if_pos (by simp), if_neg (by omega), e3]
    simp [usedV]
theorem used_1 (o : Nat) (p s : Int) (ks : List Nat) (h : o = 1 ∨ o = 3) : usedV ⟨o, p, s, ks⟩ = ⟨o, p, s, ks⟩ := by
  unfold usedV
  dsimp only
  rw [if_neg (by omega), if_neg (by omega)]
theorem used_2 (o : Nat) (p s : Int) (ks : List Nat) (h : o = 2 ∨ o = 4) : usedV ⟨o, p, s, ks⟩ = ⟨o, p, 0, ks⟩ := by
  unfold usedV
  dsimp only
  rw [if_neg (by omega), if_pos h]
theorem used_5 (o : Nat) (p s : Int) (ks : List Nat) (h : 4 < o) : usedV ⟨o, p, s, ks⟩ = ⟨o, 0, 0, []⟩ := by
  unfold usedV
  dsimp only
  rw [if_pos h]
theorem rqC_used {o : Nat} {p s : Int} {ks : List Nat} (h : rqC o p s ks.length = 0) : rqC (usedV ⟨o, p, s, ks⟩).o (usedV ⟨o, p, s, ks⟩).p (usedV ⟨o, p, s, ks⟩).s (usedV ⟨o, p, s, ks⟩).ks.length = 0 ∧ rqB (usedV ⟨o, p, s, ks⟩).o (usedV ⟨o, p, s, ks⟩).p (usedV ⟨o, p, s, ks⟩).s (usedV ⟨o, p, s, ks⟩).ks = rqB o p s ks := by
  rcases rqC_ways h with ho | ⟨hp, hn, ho⟩
  · rw [used_5 o p s ks (by omega)]
    dsimp only
    refine ⟨by unfold rqC; rw [if_pos ho], ?_⟩
    unfold rqB
    rw [if_neg (by omega), if_neg (by omega), if_neg (by omega), if_neg (by omega), if_neg (by omega), if_neg (by omega)]
  by_cases h1 : o = 1 ∨ o = 3
  · rw [used_1 o p s ks h1]
    dsimp only
    exact ⟨h, by with_reducible rfl⟩
  · have h2 : o = 2 ∨ o = 4 := by omega
    rw [used_2 o p s ks h2]
    dsimp only
    refine ⟨?_, ?_⟩
    · unfold rqC
      rw [if_neg (by omega), if_neg (by omega), if_neg ?_, if_neg (by omega)]
      rw [hp]
      rintro (g | ⟨g, _⟩ | ⟨g, _⟩)
      · simp at g
      · omega
      · omega
    · unfold rqB
      rw [if_neg (by omega), if_neg (by omega), if_pos h2, if_neg (by omega), if_neg (by omega)]
theorem rqV_self {o : Nat} {p s : Int} {ks : List Nat} (h : rqC o p s ks.length = 0) : rqV (rqB o p s ks) = (usedV ⟨o, p, s, ks⟩, 0) := by
  unfold rqV
  rw [if_neg (by have := rqB_max h; omega), toldV_self h]
  show (if _ then _ else _) = _
  rw [if_pos (rqC_used h)]

end Go.Proofs.Ytndgladfcogiiaa
