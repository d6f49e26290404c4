/- The plain mathematics of perm: lists of serials in form, what is put in its place and dropped, a search by halving. No program. -/
namespace Go.Proofs.Ytnkecjjfbllgdaa
set_option maxRecDepth 100000

/-- Each serial lies from 1 to Max, each is greater than the one ahead of it. -/
def okList : Int → List Int → Bool
  | _, [] => true
  | last, x :: l => decide (last < x) && decide (1 ≤ x) && decide (x ≤ 4611686018427387903) && okList x l
/-- Check: 0, or ErrForm's number. -/
def semB (p : Int) (xs : List Int) : Bool := decide (1 ≤ p) && decide (p ≤ 64) && decide ((xs.length : Int) ≤ p) && okList 0 xs
def hasV (xs : List Int) (n : Int) : Bool := xs.any fun x => x == n
def putV : List Int → Int → List Int
  | [], n => [n]
  | x :: l, n => if n < x then n :: x :: l else x :: putV l n
def dropV (xs : List Int) (n : Int) : List Int := xs.filter fun x => x != n
/-- How many lie below n: where the halving ends. -/
def placeV (xs : List Int) (n : Int) : Nat := (xs.takeWhile fun x => decide (x < n)).length

theorem okList_lt {last : Int} : ∀ {xs : List Int}, okList last xs = true → ∀ x ∈ xs, last < x ∧ 1 ≤ x ∧ x ≤ 4611686018427387903
  | [], _, _, h => by cases h
  | y :: l, h, x, hx => by
    simp only [okList, Bool.and_eq_true, decide_eq_true_eq] at h
    rcases List.mem_cons.1 hx with rfl | hx
    · omega
    · have := okList_lt h.2 x hx; omega
theorem okList_weak {a b : Int} (h : a ≤ b) : ∀ {xs : List Int}, okList b xs = true → okList a xs = true
  | [], _ => rfl
  | y :: l, h' => by
    simp only [okList, Bool.and_eq_true, decide_eq_true_eq] at h' ⊢
    exact ⟨⟨⟨by omega, h'.1.1.2⟩, h'.1.2⟩, h'.2⟩
/-- In order: the serials ahead of place k are lesser, those from it on no lesser. -/
theorem okList_sorted : ∀ {xs : List Int} {last : Int}, okList last xs = true → ∀ i j, i < j → j < xs.length → xs.getD i 0 < xs.getD j 0
  | [], _, _, _, _, _, h => absurd h (by simp)
  | y :: l, last, h, i, j, hij, hj => by
    simp only [okList, Bool.and_eq_true, decide_eq_true_eq] at h
    cases j with
    | zero => omega
    | succ j =>
      cases i with
      | zero =>
        have hj' : j < l.length := by simpa using hj
        have hm : l.getD j 0 ∈ l := by rw [List.getD_eq_getElem?_getD, List.getElem?_eq_getElem hj']; exact List.getElem_mem hj'
        simpa using (okList_lt h.2 _ hm).1
      | succ i => simpa using okList_sorted h.2 i j (by omega) (by simpa using hj)
theorem placeV_le (xs : List Int) (n : Int) : placeV xs n ≤ xs.length := by unfold placeV; exact (List.takeWhile_sublist _).length_le
theorem placeV_lt : ∀ {xs : List Int} {n : Int} {i : Nat}, i < placeV xs n → xs.getD i 0 < n
  | [], _, _, h => absurd h (by simp [placeV])
  | y :: l, n, i, h => by
    unfold placeV at h
    rw [List.takeWhile_cons] at h
    split at h
    · rename_i hy
      cases i with
      | zero => simpa using hy
      | succ i => simpa using placeV_lt (xs := l) (n := n) (i := i) (by unfold placeV; simpa using h)
    · simp at h
theorem placeV_at : ∀ {xs : List Int} {n : Int}, placeV xs n < xs.length → n ≤ xs.getD (placeV xs n) 0
  | [], _, h => absurd h (by simp)
  | y :: l, n, h => by
    unfold placeV at h ⊢
    rw [List.takeWhile_cons] at h ⊢
    split
    · rename_i hy
      rw [if_pos hy] at h
      have h2 := placeV_at (xs := l) (n := n) (by unfold placeV; simpa using h)
      unfold placeV at h2
      simpa using h2
    · rename_i hy
      simp at hy
      simpa using hy
theorem placeV_ge {xs : List Int} {n last : Int} (h : okList last xs = true) {i : Nat} (hi : placeV xs n ≤ i) (hl : i < xs.length) : n ≤ xs.getD i 0 := by
  have h0 := placeV_at (xs := xs) (n := n) (by omega)
  rcases Nat.lt_or_ge (placeV xs n) i with hlt | hge
  · have := okList_sorted h _ _ hlt hl
    omega
  · obtain rfl : i = placeV xs n := by omega
    exact h0
/-- Held: the serial stands at its place. -/
theorem hasV_place {xs : List Int} {n last : Int} (h : okList last xs = true) : hasV xs n = (decide (placeV xs n < xs.length) && (xs.getD (placeV xs n) 0 == n)) := by
  rw [Bool.eq_iff_iff]
  unfold hasV
  simp only [List.any_eq_true, beq_iff_eq, Bool.and_eq_true, decide_eq_true_eq]
  constructor
  · rintro ⟨x, hx, rfl⟩
    obtain ⟨i, hi, hxi⟩ := List.getElem_of_mem hx
    have hg : xs.getD i 0 = x := by rw [List.getD_eq_getElem?_getD, List.getElem?_eq_getElem hi]; exact hxi
    have hle : placeV xs x ≤ i := by
      rcases Nat.lt_or_ge i (placeV xs x) with h' | h'
      · have := placeV_lt h'; omega
      · exact h'
    refine ⟨by omega, ?_⟩
    have h1 := placeV_at (xs := xs) (n := x) (by omega)
    rcases Nat.lt_or_ge (placeV xs x) i with hlt | hge
    · have := okList_sorted h _ _ hlt hi
      omega
    · obtain rfl : i = placeV xs x := by omega
      exact hg
  · rintro ⟨hl, he⟩
    exact ⟨xs.getD (placeV xs n) 0, by rw [List.getD_eq_getElem?_getD, List.getElem?_eq_getElem hl]; exact List.getElem_mem hl, he⟩
theorem take_place : ∀ (xs : List Int) (n : Int), xs.take (placeV xs n) = xs.takeWhile fun x => decide (x < n)
  | [], _ => rfl
  | y :: l, n => by
    have ih := take_place l n
    unfold placeV at ih ⊢
    rw [List.takeWhile_cons]
    split
    · rw [List.length_cons, List.take_succ_cons, ih]
    · rfl
/-- Put in its place: what stands ahead, the serial, what stands behind. -/
theorem putV_place {n last : Int} : ∀ {xs : List Int}, okList last xs = true → hasV xs n = false → putV xs n = xs.take (placeV xs n) ++ [n] ++ xs.drop (placeV xs n)
  | [], _, _ => rfl
  | y :: l, h, hh => by
    simp only [okList, Bool.and_eq_true, decide_eq_true_eq] at h
    have hh' : ¬ y = n ∧ hasV l n = false := by
      unfold hasV at hh ⊢
      simp only [List.any_cons, Bool.or_eq_false_iff, beq_eq_false_iff_ne] at hh
      exact hh
    have ih := putV_place (xs := l) (okList_weak (by omega) h.2 : okList last l = true) hh'.2
    unfold placeV at ih ⊢
    rw [List.takeWhile_cons]
    unfold putV
    by_cases hy : y < n
    · rw [if_neg (by omega), if_pos (by simpa using hy), ih]; simp
    · rw [if_pos (by omega), if_neg (by simpa using hy)]; simp
theorem dropV_none : ∀ {xs : List Int} {n : Int}, (∀ x ∈ xs, x ≠ n) → dropV xs n = xs := by
  intro xs n h
  unfold dropV
  rw [List.filter_eq_self]
  intro x hx
  simpa using h x hx
theorem dropV_place {n last : Int} : ∀ {xs : List Int}, okList last xs = true → hasV xs n = true → dropV xs n = xs.take (placeV xs n) ++ xs.drop (placeV xs n + 1)
  | [], _, hh => by simp [hasV] at hh
  | y :: l, h, hh => by
    simp only [okList, Bool.and_eq_true, decide_eq_true_eq] at h
    by_cases hy : y = n
    · subst hy
      have h1 : placeV (y :: l) y = 0 := by unfold placeV; rw [List.takeWhile_cons, if_neg (by simp)]; rfl
      rw [h1]
      have h2 : dropV l y = l := dropV_none fun x hx => by have := okList_lt h.2 x hx; omega
      unfold dropV at h2 ⊢
      simp [h2]
    · have hl : hasV l n = true := by
        unfold hasV at hh ⊢
        simp only [List.any_cons, Bool.or_eq_true, beq_iff_eq] at hh
        rcases hh with h' | h'
        · exact absurd h' hy
        · exact h'
      have hlt : y < n := by
        unfold hasV at hl
        simp only [List.any_eq_true, beq_iff_eq] at hl
        obtain ⟨x, hx, rfl⟩ := hl
        exact (okList_lt h.2 x hx).1
      have ih := dropV_place (xs := l) (okList_weak (by omega) h.2 : okList last l = true) hl
      have hp : placeV (y :: l) n = placeV l n + 1 := by unfold placeV; rw [List.takeWhile_cons, if_pos (by simpa using hlt)]; rfl
      rw [hp]
      unfold dropV at ih ⊢
      rw [List.filter_cons, if_pos (by simpa using hy), ih]
      simp
end Go.Proofs.Ytnkecjjfbllgdaa
