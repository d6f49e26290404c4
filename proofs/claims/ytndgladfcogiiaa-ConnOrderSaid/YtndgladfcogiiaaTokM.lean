/- Mathematics of tokens: numbers as bytes, the highest first; a token's bytes. -/
namespace Go.Proofs.Ytndgladfcogiiaa
namespace Tk

/-- n bytes of x, the highest first. -/
def wordV (x : Nat) : Nat → List Nat
  | 0 => []
  | n + 1 => wordV (x / 256) n ++ [x % 256]

/-- Of bytes, the highest first. -/
def numV (l : List Nat) : Nat := l.foldl (fun a b => a * 256 + b) 0

theorem wordV_len (x n : Nat) : (wordV x n).length = n := by
  induction n generalizing x with
  | zero => rfl
  | succ n ih => simp [wordV, ih]

theorem wordV_lt (x n : Nat) : ∀ d ∈ wordV x n, d < 256 := by
  induction n generalizing x with
  | zero => simp [wordV]
  | succ n ih =>
    intro d hd
    simp only [wordV, List.mem_append, List.mem_singleton] at hd
    rcases hd with hd | hd
    · exact ih _ d hd
    · omega

theorem pow_pos' (n : Nat) : 0 < 256 ^ n := Nat.pow_pos (by omega)

theorem wordV_cons (x n : Nat) : wordV x (n + 1) = (x / 256 ^ n % 256) :: wordV x n := by
  induction n generalizing x with
  | zero => simp [wordV]
  | succ n ih =>
    have h : wordV x (n + 1 + 1) = wordV (x / 256) (n + 1) ++ [x % 256] := rfl
    rw [h, ih (x / 256)]
    have e : x / 256 / 256 ^ n = x / 256 ^ (n + 1) := by rw [Nat.div_div_eq_div_mul, Nat.pow_succ, Nat.mul_comm]
    rw [e]
    rfl

theorem numV_snoc (l : List Nat) (d : Nat) : numV (l ++ [d]) = numV l * 256 + d := by unfold numV; rw [List.foldl_append]; rfl

theorem numV_lt {l : List Nat} (h : ∀ d ∈ l, d < 256) : numV l < 256 ^ l.length := by
  induction hl : l.length generalizing l with
  | zero => rw [List.eq_nil_of_length_eq_zero hl]; decide
  | succ n ih =>
    obtain ⟨m, d, rfl⟩ : ∃ m d, l = m ++ [d] := ⟨l.dropLast, l.getLast (by intro e; rw [e] at hl; cases hl), (List.dropLast_concat_getLast _).symm⟩
    have hm : m.length = n := by simpa using hl
    have h1 := ih (l := m) (fun x hx => h x (by simp [hx])) hm
    have h2 := h d (by simp)
    rw [numV_snoc, Nat.pow_succ]
    omega

theorem wordV_numV {l : List Nat} (h : ∀ d ∈ l, d < 256) : wordV (numV l) l.length = l := by
  induction hl : l.length generalizing l with
  | zero => rw [List.eq_nil_of_length_eq_zero hl]; rfl
  | succ n ih =>
    obtain ⟨m, d, rfl⟩ : ∃ m d, l = m ++ [d] := ⟨l.dropLast, l.getLast (by intro e; rw [e] at hl; cases hl), (List.dropLast_concat_getLast _).symm⟩
    have hm : m.length = n := by simpa using hl
    have h1 := ih (l := m) (fun x hx => h x (by simp [hx])) hm
    have h2 := h d (by simp)
    rw [numV_snoc, wordV, show (numV m * 256 + d) / 256 = numV m by omega, h1, show (numV m * 256 + d) % 256 = d by omega]

theorem numV_wordV (x n : Nat) : numV (wordV x n) = x % 256 ^ n := by
  induction n generalizing x with
  | zero => simp [wordV, numV, Nat.mod_one]
  | succ n ih =>
    rw [wordV, numV_snoc, ih, Nat.pow_succ]
    have h1 : x % (256 ^ n * 256) = x % 256 + 256 * (x / 256 % 256 ^ n) := by rw [Nat.mul_comm, Nat.mod_mul]
    omega

theorem wordV_mod (x n : Nat) : wordV (x % 256 ^ n) n = wordV x n := by
  have h := wordV_numV (wordV_lt x n)
  rw [wordV_len, numV_wordV] at h
  exact h

theorem wordV_mod4 (x : Nat) : wordV (x % 4294967296) 4 = wordV x 4 := wordV_mod x 4

theorem wordV_inj {x y n : Nat} (hx : x < 256 ^ n) (hy : y < 256 ^ n) (h : wordV x n = wordV y n) : x = y := by
  have := congrArg numV h
  rw [numV_wordV, numV_wordV, Nat.mod_eq_of_lt hx, Nat.mod_eq_of_lt hy] at this
  exact this
end Tk
end Go.Proofs.Ytndgladfcogiiaa
