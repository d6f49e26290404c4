/- Epochs: their mathematics. -/
import Derived.Test.YtpjgpiiibgogeaaShT
namespace Go.Proofs.Ytpjgpiiibgogeaa
set_option linter.unusedVariables false

/-- What a pending call of an Epochs does next. -/
inductive EN where
  | none
  | pin
  | mark (old e : Nat)
  | confirm (e : Nat)
  | unpin
  | retire (t : Int)
  | advance
  | look (i e : Nat)
  | move (e : Nat)
  | collect
/-- A worker: what its call does next, its pin, what it has given up. -/
structure WkV where
  nx : EN
  pin : Nat
  gs : List (Int × Nat)
abbrev noWk : WkV := ⟨.none, 0, []⟩
/-- The words (the epoch, then each worker's), the workers. -/
structure EpV where
  ws : List Nat
  wk : Nat → WkV
def EpV.E (s : EpV) : Nat := s.ws.getD 0 0
def EpV.P (s : EpV) (i : Nat) : Nat := s.ws.getD (i + 1) 0
/-- A step's result. -/
structure EqV where
  d : Bool
  e : Nat
  n : Int
  th : List Int
abbrev noEq : EqV := ⟨false, 0, 0, []⟩
def okEq (n : Int) : EqV := ⟨true, 0, n, []⟩
/-- A change of word and worker. -/
def EpV.setW (s : EpV) (j v : Nat) : EpV := { s with ws := s.ws.set j v }
def EpV.setK (s : EpV) (i : Nat) (x : WkV) : EpV := { s with wk := updF s.wk i x }
def EpV.nx (s : EpV) (i : Nat) (y : EN) : EpV := s.setK i { s.wk i with nx := y }
/-- How many of the things given up are old. -/
def oldN (E : Nat) (gs : List (Int × Nat)) : Nat := (gs.takeWhile (fun g => decide (g.2 + 2 ≤ E))).length
structure StE where
  q : EqV
  s : EpV
  y : EN
/-- A step, but for what comes next being written down. -/
def stepE (W : Nat) (s : EpV) (i : Nat) : StE :=
  match (s.wk i).nx with
  | .none => ⟨noEq, s, .none⟩
  | .pin => ⟨noEq, s, .mark 0 s.E⟩
  | .mark old e => ⟨noEq, if s.P i = old then s.setW (i + 1) (e + 1) else s, .confirm e⟩
  | .confirm e => if s.E = e then ⟨okEq e, s.setK i { s.wk i with pin := e + 1 }, .none⟩ else ⟨noEq, s, .mark (e + 1) s.E⟩
  | .unpin => ⟨okEq 0, (if s.P i = (s.wk i).pin then s.setW (i + 1) 0 else s).setK i { s.wk i with pin := 0 }, .none⟩
  | .retire t => ⟨okEq s.E, s.setK i { s.wk i with gs := (s.wk i).gs ++ [(t, s.E)] }, .none⟩
  | .advance => ⟨noEq, s, .look 0 s.E⟩
  | .look j e => if s.P j ≠ 0 ∧ s.P j ≠ e + 1 then ⟨⟨true, 9, 0, []⟩, s, .none⟩ else if j + 1 < W then ⟨noEq, s, .look (j + 1) e⟩ else ⟨noEq, s, .move e⟩
  | .move e => if s.E = e then ⟨okEq (e + 1), s.setW 0 (e + 1), .none⟩ else ⟨okEq 0, s, .none⟩
  | .collect => ⟨⟨true, 0, oldN s.E (s.wk i).gs, ((s.wk i).gs.take (oldN s.E (s.wk i).gs)).map (·.1)⟩, s.setK i { s.wk i with gs := (s.wk i).gs.drop (oldN s.E (s.wk i).gs) }, .none⟩
def isEN : EN → Bool
  | .none => false
  | _ => true
/-- A call's first step. -/
def firstE (op : Nat) (t : Int) : EN := if op = 1 then .pin else if op = 2 then .unpin else if op = 3 then .retire t else if op = 4 then .advance else .collect
/-- Whether a worker may begin such a call. -/
def checkE (k : WkV) (op : Nat) : Nat :=
  if isEN k.nx = true then 9 else if op = 2 ∧ k.pin = 0 then 7 else if op = 1 ∧ k.pin ≠ 0 then 8 else if op = 3 ∧ 4096 ≤ k.gs.length then 10 else 0
theorem oldN_le (E : Nat) (gs : List (Int × Nat)) : oldN E gs ≤ gs.length := by
  unfold oldN
  exact (List.takeWhile_sublist _).length_le
theorem oldN_lt {E : Nat} {gs : List (Int × Nat)} {j : Nat} (h : j < oldN E gs) : (gs.getD j (0, 0)).2 + 2 ≤ E := by
  unfold oldN at h
  induction gs generalizing j with
  | nil => simp at h
  | cons g gs ih =>
    rw [List.takeWhile_cons] at h
    split at h
    · rename_i hg
      cases j with
      | zero => simpa using hg
      | succ j => simpa using ih (by simpa using h)
    · simp at h
theorem oldN_at {E : Nat} {gs : List (Int × Nat)} (h : oldN E gs < gs.length) : ¬ (gs.getD (oldN E gs) (0, 0)).2 + 2 ≤ E := by
  unfold oldN at *
  induction gs with
  | nil => simp at h
  | cons g gs ih =>
    rw [List.takeWhile_cons] at *
    by_cases hg : decide (g.2 + 2 ≤ E) = true
    · rw [if_pos hg] at *
      simpa using ih (by simpa using h)
    · rw [if_neg hg] at *
      simpa using hg
theorem oldN_eq {E : Nat} {gs : List (Int × Nat)} {n : Nat} (hn : n ≤ gs.length) (h1 : ∀ j, j < n → (gs.getD j (0, 0)).2 + 2 ≤ E) (h2 : n < gs.length → ¬ (gs.getD n (0, 0)).2 + 2 ≤ E) : oldN E gs = n := by
  rcases Nat.lt_trichotomy (oldN E gs) n with h | h | h
  · exact absurd (h1 _ h) (oldN_at (by omega))
  · exact h
  · have := oldN_le E gs
    exact absurd (oldN_lt h) (h2 (by omega))
end Go.Proofs.Ytpjgpiiibgogeaa
