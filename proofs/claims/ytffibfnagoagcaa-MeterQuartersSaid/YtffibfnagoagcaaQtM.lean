/- Lists of floats in order: only one of them holds the same. -/
import Derived.Test.YtffibfnagoagcaaMetZ
import Derived.Test.YtffibfnagoagcaaMetP
namespace Go.Proofs.Ytffibfnagoagcaa
open Go.RowKit
set_option maxRecDepth 100000
set_option linter.unusedVariables false

theorem idx_inj {a b : Nat} (ha : a ≤ 18446744073709551615) (hb : b ≤ 18446744073709551615) (na : nanB a = false) (nb : nanB b = false) (h : idxB a = idxB b) : a = b := by
  have := can_same ha hb (by unfold sameB; rw [h]; exact beq_self_eq_true _)
  rwa [can_fin na, can_fin nb] at this
def Srt (l : List Nat) : Prop := List.Pairwise (fun a b => idxB a ≤ idxB b) l
theorem srt_iff {l : List Nat} : Srt l ↔ ∀ a b, a < b → b < l.length → idxB (l.getD a 0) ≤ idxB (l.getD b 0) := by
  unfold Srt
  rw [List.pairwise_iff_getElem]
  constructor
  · intro h a b hab hb
    rw [List.getD_eq_getElem?_getD, List.getD_eq_getElem?_getD, List.getElem?_eq_getElem (by omega), List.getElem?_eq_getElem hb]
    exact h a b _ _ hab
  · intro h a b ha hb hab
    have := h a b hab hb
    rwa [List.getD_eq_getElem?_getD, List.getD_eq_getElem?_getD, List.getElem?_eq_getElem ha, List.getElem?_eq_getElem hb] at this
theorem srt_eq {l l' : List Nat} (hp : l.Perm l') (h : Srt l) (h' : Srt l') (hn : ∀ x ∈ l, x ≤ 18446744073709551615 ∧ nanB x = false) : l = l' :=
  List.Perm.eq_of_pairwise (le := fun a b => idxB a ≤ idxB b) (fun a b ha hb h1 h2 => by
    obtain ⟨a1, a2⟩ := hn a ha
    obtain ⟨b1, b2⟩ := hn b (hp.mem_iff.2 hb)
    exact idx_inj a1 b1 a2 b2 (by omega)) h h' hp
/-- All is in order but for the one at i, which is too far behind. -/
def SrtX (l : List Nat) (i : Nat) : Prop := ∀ a b, a < b → b < l.length → b ≠ i → idxB (l.getD a 0) ≤ idxB (l.getD b 0)
theorem SrtX.done {l : List Nat} {i : Nat} (h : SrtX l i) (hi : i = 0 ∨ idxB (l.getD (i - 1) 0) ≤ idxB (l.getD i 0)) : Srt l := by
  refine srt_iff.2 fun a b hab hb => ?_
  by_cases hbi : b = i
  · subst hbi
    rcases hi with e | e
    · omega
    · by_cases ha : a = b - 1
      · rw [ha]; exact e
      · exact Nat.le_trans (h a (b - 1) (by omega) (by omega) (by omega)) e
  · exact h a b hab hb hbi
def swp (l : List Nat) (j : Nat) : List Nat := (l.set j (l.getD (j + 1) 0)).set (j + 1) (l.getD j 0)
theorem swp_len (l : List Nat) (j : Nat) : (swp l j).length = l.length := by simp [swp]
theorem swp_at {l : List Nat} {j : Nat} (h : j + 1 < l.length) (k : Nat) : (swp l j).getD k 0 = if k = j + 1 then l.getD j 0 else if k = j then l.getD (j + 1) 0 else l.getD k 0 := by
  unfold swp
  simp only [List.getD_eq_getElem?_getD, List.getElem?_set, List.length_set]
  by_cases h1 : k = j + 1
  · subst h1; simp [h]
  · by_cases h2 : k = j
    · subst h2
      rw [if_neg (by omega), if_pos rfl, if_neg h1, if_pos rfl, if_pos (by omega)]
      rfl
    · rw [if_neg (by omega), if_neg (by omega), if_neg h1, if_neg h2]
theorem swp_perm {l : List Nat} {j : Nat} (h : j + 1 < l.length) : (swp l j).Perm l := by
  unfold swp
  rw [List.getD_eq_getElem?_getD, List.getD_eq_getElem?_getD, List.getElem?_eq_getElem h, List.getElem?_eq_getElem (show j < l.length by omega)]
  exact List.set_set_perm (by omega) h
theorem SrtX.swp {l : List Nat} {j : Nat} (h : SrtX l (j + 1)) (hj : j + 1 < l.length) (hlt : idxB (l.getD (j + 1) 0) < idxB (l.getD j 0)) : SrtX (swp l j) j := by
  intro a b hab hb hbj
  rw [swp_len] at hb
  rw [swp_at hj, swp_at hj]
  by_cases b1 : b = j + 1
  · rw [if_pos b1, if_neg (show ¬ a = j + 1 by omega)]
    by_cases a1 : a = j
    · rw [if_pos a1]; omega
    · rw [if_neg a1]; exact h a j (by omega) (by omega) (by omega)
  · rw [if_neg b1, if_neg hbj]
    by_cases a1 : a = j + 1
    · rw [if_pos a1]; exact h j b (by omega) hb b1
    · by_cases a2 : a = j
      · rw [if_neg a1, if_pos a2]; exact h (j + 1) b (by omega) hb b1
      · rw [if_neg a1, if_neg a2]; exact h a b hab hb b1
theorem SrtX.new {l : List Nat} (h : Srt l) (x : Nat) : SrtX (l ++ [x]) l.length := by
  have h := srt_iff.1 h
  intro a b hab hb hbl
  simp only [List.length_append, List.length_cons, List.length_nil] at hb
  have e : ∀ k, k < l.length → (l ++ [x]).getD k 0 = l.getD k 0 := fun k hk => by
    rw [List.getD_eq_getElem?_getD, List.getElem?_append_left hk, ← List.getD_eq_getElem?_getD]
  rw [e a (by omega), e b (by omega)]
  exact h a b hab (by omega)
theorem SrtX.nil : Srt [] := by unfold Srt; exact List.Pairwise.nil
end Go.Proofs.Ytffibfnagoagcaa
