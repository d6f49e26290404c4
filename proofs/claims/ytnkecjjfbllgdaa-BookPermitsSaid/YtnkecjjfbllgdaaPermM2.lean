/- The plain mathematics of perm, further: what is put can be dropped; two are put in either order. No program. -/
import Derived.Test.YtnkecjjfbllgdaaPermM
namespace Go.Proofs.Ytnkecjjfbllgdaa
set_option maxRecDepth 100000

theorem okList_cons {last x : Int} {l : List Int} : okList last (x :: l) = true ↔ last < x ∧ 1 ≤ x ∧ x ≤ 4611686018427387903 ∧ okList x l = true := by
  simp only [okList, Bool.and_eq_true, decide_eq_true_eq, and_assoc]
theorem hasV_cons {x : Int} {l : List Int} {n : Int} : hasV (x :: l) n = false ↔ ¬ x = n ∧ hasV l n = false := by
  unfold hasV
  simp only [List.any_cons, Bool.or_eq_false_iff, beq_eq_false_iff_ne, ne_eq]
theorem put_ok : ∀ {xs : List Int} {last n : Int}, okList last xs = true → hasV xs n = false → last < n → 1 ≤ n → n ≤ 4611686018427387903 → okList last (putV xs n) = true
  | [], last, n, _, _, h1, h2, h3 => okList_cons.2 ⟨h1, h2, h3, rfl⟩
  | x :: l, last, n, h, hh, h1, h2, h3 => by
    obtain ⟨a, b, c, d⟩ := okList_cons.1 h
    obtain ⟨e, f⟩ := hasV_cons.1 hh
    unfold putV
    by_cases hx : n < x
    · rw [if_pos hx]; exact okList_cons.2 ⟨h1, h2, h3, okList_cons.2 ⟨hx, b, c, d⟩⟩
    · rw [if_neg hx]; exact okList_cons.2 ⟨a, b, c, put_ok d f (by omega) h2 h3⟩
theorem put_len : ∀ (xs : List Int) (n : Int), (putV xs n).length = xs.length + 1
  | [], _ => rfl
  | x :: l, n => by
    unfold putV; split
    · rfl
    · rw [List.length_cons, put_len l n]; rfl
theorem has_put : ∀ (xs : List Int) (n u : Int), hasV (putV xs n) u = (hasV xs u || n == u)
  | [], n, u => by simp [putV, hasV]
  | x :: l, n, u => by
    unfold putV; split
    · unfold hasV; simp only [List.any_cons]; rw [Bool.or_comm]
    · have ih := has_put l n u
      unfold hasV at ih ⊢
      rw [List.any_cons, ih, List.any_cons, Bool.or_assoc]
theorem drop_put : ∀ (xs : List Int) (n : Int), hasV xs n = false → dropV (putV xs n) n = xs
  | [], n, _ => by simp [putV, dropV]
  | x :: l, n, hh => by
    obtain ⟨e, f⟩ := hasV_cons.1 hh
    have hn : dropV (x :: l) n = x :: l := dropV_none fun y hy hyn => by
      unfold hasV at hh
      have := List.any_eq_false.1 hh y hy
      exact this (by simpa using hyn)
    unfold putV; split
    · unfold dropV at hn ⊢
      rw [List.filter_cons, if_neg (by simp), hn]
    · have ih := drop_put l n f
      unfold dropV at ih ⊢
      rw [List.filter_cons, if_pos (by simpa using e), ih]
theorem put_comm : ∀ (xs : List Int) (m n : Int), m ≠ n → putV (putV xs m) n = putV (putV xs n) m
  | [], m, n, h => by
    show (if n < m then n :: m :: [] else m :: [n]) = (if m < n then m :: n :: [] else n :: [m])
    by_cases h1 : n < m
    · rw [if_pos h1, if_neg (by omega)]
    · rw [if_neg h1, if_pos (by omega)]
  | x :: l, m, n, h => by
    have ih := put_comm l m n h
    by_cases h1 : m < x
    · by_cases h2 : n < x
      · have e1 : putV (x :: l) m = m :: x :: l := by unfold putV; rw [if_pos h1]
        have e2 : putV (x :: l) n = n :: x :: l := by unfold putV; rw [if_pos h2]
        rw [e1, e2]
        by_cases h3 : n < m
        · have e3 : putV (m :: x :: l) n = n :: m :: x :: l := by unfold putV; rw [if_pos h3]
          have e4 : putV (n :: x :: l) m = n :: putV (x :: l) m := by rw [putV, if_neg (by omega)]
          rw [e3, e4, e1]
        · have e3 : putV (m :: x :: l) n = m :: putV (x :: l) n := by rw [putV, if_neg (by omega)]
          have e4 : putV (n :: x :: l) m = m :: n :: x :: l := by unfold putV; rw [if_pos (by omega)]
          rw [e3, e4, e2]
      · have e1 : putV (x :: l) m = m :: x :: l := by unfold putV; rw [if_pos h1]
        have e2 : putV (x :: l) n = x :: putV l n := by rw [putV, if_neg h2]
        have e3 : putV (m :: x :: l) n = m :: putV (x :: l) n := by rw [putV, if_neg (by omega)]
        have e4 : putV (x :: putV l n) m = m :: x :: putV l n := by rw [putV, if_pos h1]
        rw [e1, e2, e3, e2, e4]
    · have e1 : putV (x :: l) m = x :: putV l m := by rw [putV, if_neg h1]
      rw [e1]
      by_cases h2 : n < x
      · have e2 : putV (x :: l) n = n :: x :: l := by unfold putV; rw [if_pos h2]
        have e3 : putV (x :: putV l m) n = n :: x :: putV l m := by rw [putV, if_pos h2]
        have e4 : putV (n :: x :: l) m = n :: putV (x :: l) m := by rw [putV, if_neg (by omega)]
        rw [e2, e3, e4, e1]
      · have e2 : putV (x :: l) n = x :: putV l n := by rw [putV, if_neg h2]
        have e3 : putV (x :: putV l m) n = x :: putV (putV l m) n := by rw [putV, if_neg h2]
        have e4 : putV (x :: putV l n) m = x :: putV (putV l n) m := by rw [putV, if_neg h1]
        rw [e2, e3, e4, ih]

/-- The error that Take answers. -/
def takeE (p : Int) (xs : List Int) (t : Int) : Int :=
  if t < 1 ∨ 4611686018427387903 < t then 1 else if semB p xs = false then 3 else if hasV xs t = true then 8 else if (xs.length : Int) = p then 9 else 0
theorem takeE_zero {p : Int} {xs : List Int} {t : Int} : takeE p xs t = 0 ↔ 1 ≤ t ∧ t ≤ 4611686018427387903 ∧ semB p xs = true ∧ hasV xs t = false ∧ (xs.length : Int) ≠ p := by
  unfold takeE
  constructor
  · intro h
    split at h
    · omega
    · split at h
      · omega
      · split at h
        · omega
        · split at h
          · omega
          · rename_i h1 h2 h3 h4
            exact ⟨by omega, by omega, by simpa using h2, by simpa using h3, h4⟩
  · rintro ⟨h1, h2, h3, h4, h5⟩
    rw [if_neg (by omega), if_neg (by rw [h3]; simp), if_neg (by rw [h4]; simp), if_neg h5]
theorem semB_iff {p : Int} {xs : List Int} : semB p xs = true ↔ 1 ≤ p ∧ p ≤ 64 ∧ (xs.length : Int) ≤ p ∧ okList 0 xs = true := by
  unfold semB
  simp only [Bool.and_eq_true, decide_eq_true_eq, and_assoc]
/-- Behind a Take that was right the semaphore is in form. -/
theorem sem_put {p : Int} {xs : List Int} {t : Int} (h : takeE p xs t = 0) : semB p (putV xs t) = true := by
  obtain ⟨h1, h2, h3, h4, h5⟩ := takeE_zero.1 h
  obtain ⟨a, b, c, d⟩ := semB_iff.1 h3
  refine semB_iff.2 ⟨a, b, ?_, put_ok d h4 (by omega) h1 h2⟩
  rw [put_len]; omega
/-- What can be taken behind another one can be taken ahead of it. -/
theorem take_swap {p : Int} {xs : List Int} {x y : Int} (h : takeE p xs x = 0) (h' : takeE p (putV xs x) y = 0) : takeE p xs y = 0 ∧ takeE p (putV xs y) x = 0 ∧ putV (putV xs x) y = putV (putV xs y) x := by
  obtain ⟨a1, a2, a3, a4, a5⟩ := takeE_zero.1 h
  obtain ⟨b1, b2, b3, b4, b5⟩ := takeE_zero.1 h'
  rw [has_put, Bool.or_eq_false_iff] at b4
  rw [put_len] at b5
  have hxy : x ≠ y := by have := b4.2; simpa using this
  have hy : takeE p xs y = 0 := takeE_zero.2 ⟨b1, b2, a3, b4.1, a5⟩
  refine ⟨hy, takeE_zero.2 ⟨a1, a2, sem_put hy, ?_, by rw [put_len]; exact b5⟩, put_comm xs x y hxy⟩
  rw [has_put, a4, Bool.false_or]
  simpa using fun h => hxy h.symm
end Go.Proofs.Ytnkecjjfbllgdaa
