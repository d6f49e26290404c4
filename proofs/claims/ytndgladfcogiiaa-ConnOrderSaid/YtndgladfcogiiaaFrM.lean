/- Mathematics of frames: the payloads of a stream's whole frames, what is left behind them, whether a wrong length stands there. -/
import Derived.Test.YtndgladfcogiiaaTokM
namespace Go.Proofs.Ytndgladfcogiiaa
namespace Fr
open Tk

/-- The length that the first four bytes tell. -/
def sizeV (l : List Nat) : Nat := numV (l.take 4)

def frV (l : List Nat) : List (List Nat) × List Nat × Bool :=
  if l.length < 4 then ([], l, false)
  else if sizeV l < 1 ∨ 4096 < sizeV l then ([], l, true)
  else if l.length < 4 + sizeV l then ([], l, false)
  else ((l.drop 4).take (sizeV l) :: (frV (l.drop (4 + sizeV l))).1, (frV (l.drop (4 + sizeV l))).2)
termination_by l.length
decreasing_by all_goals (rw [List.length_drop]; omega)

theorem fr_short {l : List Nat} (h : l.length < 4) : frV l = ([], l, false) := by rw [frV, if_pos h]
theorem fr_bad {l : List Nat} (h : 4 ≤ l.length) (hb : sizeV l < 1 ∨ 4096 < sizeV l) : frV l = ([], l, true) := by rw [frV, if_neg (by omega), if_pos hb]
theorem fr_part {l : List Nat} (h : 4 ≤ l.length) (hb : ¬ (sizeV l < 1 ∨ 4096 < sizeV l)) (hs : l.length < 4 + sizeV l) : frV l = ([], l, false) := by
  rw [frV, if_neg (by omega), if_neg hb, if_pos hs]
theorem fr_whole {l : List Nat} (hb : ¬ (sizeV l < 1 ∨ 4096 < sizeV l)) (hs : 4 + sizeV l ≤ l.length) :
    frV l = ((l.drop 4).take (sizeV l) :: (frV (l.drop (4 + sizeV l))).1, (frV (l.drop (4 + sizeV l))).2) := by
  rw [frV, if_neg (by omega), if_neg hb, if_neg (by omega)]

theorem sizeV_app {a : List Nat} (b : List Nat) (h : 4 ≤ a.length) : sizeV (a ++ b) = sizeV a := by
  unfold sizeV; rw [List.take_append_of_le_length h]

/-- What is left is the end of what came; a false third answer: no whole frame, and no wrong length, stands in front of it. -/
theorem fr_rest (l : List Nat) : ∃ k, k ≤ l.length ∧ (frV l).2.1 = l.drop k := by
  induction h : l.length using Nat.strongRecOn generalizing l with
  | _ n ih =>
    subst h
    by_cases h1 : l.length < 4
    · rw [fr_short h1]; exact ⟨0, Nat.zero_le _, rfl⟩
    by_cases h2 : sizeV l < 1 ∨ 4096 < sizeV l
    · rw [fr_bad (by omega) h2]; exact ⟨0, Nat.zero_le _, rfl⟩
    by_cases h3 : l.length < 4 + sizeV l
    · rw [fr_part (by omega) h2 h3]; exact ⟨0, Nat.zero_le _, rfl⟩
    · rw [fr_whole h2 (by omega)]
      obtain ⟨k, hk, e⟩ := ih (l.drop (4 + sizeV l)).length (by rw [List.length_drop]; omega) _ rfl
      refine ⟨4 + sizeV l + k, by rw [List.length_drop] at hk; omega, ?_⟩
      show (frV (l.drop (4 + sizeV l))).2.1 = _
      rw [e, List.drop_drop]

theorem fr_rest_lt {l : List Nat} (h : (frV l).2.2 = false) : (frV l).2.1.length < 4100 := by
  induction hn : l.length using Nat.strongRecOn generalizing l with
  | _ n ih =>
    subst hn
    by_cases h1 : l.length < 4
    · rw [fr_short h1]; show l.length < 4100; omega
    by_cases h2 : sizeV l < 1 ∨ 4096 < sizeV l
    · rw [fr_bad (by omega) h2] at h; cases h
    by_cases h3 : l.length < 4 + sizeV l
    · rw [fr_part (by omega) h2 h3]; show l.length < 4100; omega
    · rw [fr_whole h2 (by omega)] at h ⊢
      exact ih (l.drop (4 + sizeV l)).length (by rw [List.length_drop]; omega) h rfl

/-- Bytes that come behind. -/
theorem fr_app (a b : List Nat) : (frV a).2.2 = false → frV (a ++ b) = ((frV a).1 ++ (frV ((frV a).2.1 ++ b)).1, (frV ((frV a).2.1 ++ b)).2) := by
  induction hn : a.length using Nat.strongRecOn generalizing a with
  | _ n ih =>
    subst hn
    intro h
    by_cases h1 : a.length < 4
    · rw [fr_short h1]; rfl
    by_cases h2 : sizeV a < 1 ∨ 4096 < sizeV a
    · rw [fr_bad (by omega) h2] at h; cases h
    by_cases h3 : a.length < 4 + sizeV a
    · rw [fr_part (by omega) h2 h3]; rfl
    · rw [fr_whole h2 (by omega)] at h
      have hs := sizeV_app b (a := a) (by omega)
      have hw := fr_whole (l := a ++ b) (by rw [hs]; exact h2) (by rw [hs, List.length_append]; omega)
      have e1 : (a ++ b).drop (4 + sizeV a) = a.drop (4 + sizeV a) ++ b := by rw [List.drop_append_of_le_length (by omega)]
      have e2 : ((a ++ b).drop 4).take (sizeV a) = (a.drop 4).take (sizeV a) := by
        rw [List.drop_append_of_le_length (by omega), List.take_append_of_le_length (by rw [List.length_drop]; omega)]
      rw [hw, hs, e1, e2, ih (a.drop (4 + sizeV a)).length (by rw [List.length_drop]; omega) _ rfl h, fr_whole h2 (by omega)]
      simp only [List.cons_append]

theorem fr_app_bad (a b : List Nat) : (frV a).2.2 = true → frV (a ++ b) = ((frV a).1, (frV a).2.1 ++ b, true) := by
  induction hn : a.length using Nat.strongRecOn generalizing a with
  | _ n ih =>
    subst hn
    intro h
    by_cases h1 : a.length < 4
    · rw [fr_short h1] at h; cases h
    have hs := sizeV_app b (a := a) (by omega)
    by_cases h2 : sizeV a < 1 ∨ 4096 < sizeV a
    · rw [fr_bad (by omega) h2, fr_bad (by rw [List.length_append]; omega) (by rw [hs]; exact h2)]
    by_cases h3 : a.length < 4 + sizeV a
    · rw [fr_part (by omega) h2 h3] at h; cases h
    · rw [fr_whole h2 (by omega)] at h
      have hw := fr_whole (l := a ++ b) (by rw [hs]; exact h2) (by rw [hs, List.length_append]; omega)
      have e1 : (a ++ b).drop (4 + sizeV a) = a.drop (4 + sizeV a) ++ b := by rw [List.drop_append_of_le_length (by omega)]
      have e2 : ((a ++ b).drop 4).take (sizeV a) = (a.drop 4).take (sizeV a) := by
        rw [List.drop_append_of_le_length (by omega), List.take_append_of_le_length (by rw [List.length_drop]; omega)]
      rw [hw, hs, e1, e2, ih (a.drop (4 + sizeV a)).length (by rw [List.length_drop]; omega) _ rfl h, fr_whole h2 (by omega)]

/-- How many frames there may be. -/
theorem fr_count (l : List Nat) : 5 * (frV l).1.length ≤ l.length := by
  induction hn : l.length using Nat.strongRecOn generalizing l with
  | _ n ih =>
    subst hn
    by_cases h1 : l.length < 4
    · rw [fr_short h1]; exact Nat.zero_le _
    by_cases h2 : sizeV l < 1 ∨ 4096 < sizeV l
    · rw [fr_bad (by omega) h2]; exact Nat.zero_le _
    by_cases h3 : l.length < 4 + sizeV l
    · rw [fr_part (by omega) h2 h3]; exact Nat.zero_le _
    · rw [fr_whole h2 (by omega)]
      have := ih (l.drop (4 + sizeV l)).length (by rw [List.length_drop]; omega) _ rfl
      rw [List.length_drop] at this
      show 5 * ((frV (l.drop (4 + sizeV l))).1.length + 1) ≤ l.length
      omega

/-- Each payload: from 1 to 4096 bytes, each of what came. -/
theorem fr_mem (l : List Nat) : ∀ p ∈ (frV l).1, 1 ≤ p.length ∧ p.length ≤ 4096 ∧ ∀ d ∈ p, d ∈ l := by
  induction hn : l.length using Nat.strongRecOn generalizing l with
  | _ n ih =>
    subst hn
    intro p hp
    by_cases h1 : l.length < 4
    · rw [fr_short h1] at hp; simp at hp
    by_cases h2 : sizeV l < 1 ∨ 4096 < sizeV l
    · rw [fr_bad (by omega) h2] at hp; simp at hp
    by_cases h3 : l.length < 4 + sizeV l
    · rw [fr_part (by omega) h2 h3] at hp; simp at hp
    · rw [fr_whole h2 (by omega)] at hp
      rcases List.mem_cons.1 hp with rfl | hp
      · refine ⟨?_, ?_, fun d hd => List.mem_of_mem_drop (List.mem_of_mem_take hd)⟩
        · rw [List.length_take, List.length_drop]; omega
        · rw [List.length_take, List.length_drop]; omega
      · obtain ⟨k1, k2, k3⟩ := ih (l.drop (4 + sizeV l)).length (by rw [List.length_drop]; omega) _ rfl p hp
        exact ⟨k1, k2, fun d hd => List.mem_of_mem_drop (k3 d hd)⟩

/-- A payload as a frame. -/
def encV (p : List Nat) : List Nat := wordV p.length 4 ++ p

theorem encV_len (p : List Nat) : (encV p).length = p.length + 4 := by simp [encV, wordV_len]; omega
theorem sizeV_word (n : Nat) (hn : n < 4294967296) (l : List Nat) : sizeV (wordV n 4 ++ l) = n := by
  unfold sizeV
  rw [List.take_append_of_le_length (by rw [wordV_len]; omega), List.take_of_length_le (by rw [wordV_len]; omega), numV_wordV]
  exact Nat.mod_eq_of_lt hn
theorem fr_enc (p l : List Nat) (h1 : 1 ≤ p.length) (h2 : p.length ≤ 4096) : frV (encV p ++ l) = (p :: (frV l).1, (frV l).2) := by
  have hs : sizeV (encV p ++ l) = p.length := by unfold encV; rw [List.append_assoc]; exact sizeV_word _ (by omega) _
  have hd : (encV p ++ l).drop 4 = p ++ l := by
    unfold encV; rw [List.append_assoc, List.drop_append_of_le_length (by rw [wordV_len]; omega), List.drop_of_length_le (by rw [wordV_len]; omega)]; rfl
  have hd2 : (encV p ++ l).drop (4 + p.length) = l := by
    rw [← List.drop_drop, hd, List.drop_append_of_le_length (Nat.le_refl _), List.drop_length]; rfl
  rw [fr_whole (by rw [hs]; omega) (by rw [hs, List.length_append, encV_len]; omega), hs, hd, hd2, List.take_append_of_le_length (Nat.le_refl _), List.take_length]
theorem fr_encs : ∀ (ps : List (List Nat)) (l : List Nat), (∀ p ∈ ps, 1 ≤ p.length ∧ p.length ≤ 4096) → frV ((ps.map encV).flatten ++ l) = (ps ++ (frV l).1, (frV l).2) := by
  intro ps l h
  induction ps with
  | nil => rfl
  | cons p ps ih =>
    simp only [List.map_cons, List.flatten_cons, List.append_assoc]
    have hp := h p (by simp)
    rw [fr_enc p _ hp.1 hp.2, ih (fun q hq => h q (by simp [hq]))]
    rfl
theorem fr_nil : frV [] = ([], [], false) := fr_short (by decide)
theorem fr_word_bad (n : Nat) (hn : n < 4294967296) (hb : n < 1 ∨ 4096 < n) (l : List Nat) : frV (wordV n 4 ++ l) = ([], wordV n 4 ++ l, true) := by
  have hs := sizeV_word n hn l
  exact fr_bad (by rw [List.length_append, wordV_len]; omega) (by rw [hs]; exact hb)
end Fr
end Go.Proofs.Ytndgladfcogiiaa
