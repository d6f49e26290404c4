/- Plain facts on numbers written by digits below 2^32: no program is named here. -/
import Derived.KernelRfl
namespace Go.Proofs.YtifldnkcheobhaaDoor.Mth

/-- The number that digits below 2^32 write, the lowest first. -/
def val : List Nat → Nat
  | [] => 0
  | d :: l => d + 4294967296 * val l

/-- All digits are below 2^32, and they write N. -/
def Lo (l : List Nat) (N : Nat) : Prop := (∀ d ∈ l, d < 4294967296) ∧ val l = N

/-- As Lo, and the last digit is not 0. -/
def Dig (l : List Nat) (N : Nat) : Prop := Lo l N ∧ l.getLast? ≠ some 0

theorem Dig.lo {l : List Nat} {N : Nat} (h : Dig l N) : Lo l N := h.1

theorem val_append (a b : List Nat) : val (a ++ b) = val a + 4294967296 ^ a.length * val b := by
  induction a with
  | nil => simp [val]
  | cons d l ih =>
    simp only [List.cons_append, val, ih, List.length_cons, Nat.pow_succ]
    rw [Nat.mul_add, ← Nat.mul_assoc, Nat.mul_comm 4294967296 (4294967296 ^ l.length)]
    omega

theorem val_snoc (a : List Nat) (d : Nat) : val (a ++ [d]) = val a + 4294967296 ^ a.length * d := by
  rw [val_append]; simp [val]

theorem val_lt {l : List Nat} (h : ∀ d ∈ l, d < 4294967296) : val l < 4294967296 ^ l.length := by
  induction l with
  | nil => simp [val]
  | cons d l ih =>
    have h1 := h d (by simp)
    have h2 := ih (fun x hx => h x (by simp [hx]))
    simp only [val, List.length_cons, Nat.pow_succ]
    have : val l + 1 ≤ 4294967296 ^ l.length := h2
    have h3 : (val l + 1) * 4294967296 ≤ 4294967296 ^ l.length * 4294967296 := Nat.mul_le_mul_right _ this
    omega

theorem Lo.lt {l : List Nat} {N : Nat} (h : Lo l N) : N < 4294967296 ^ l.length := by
  rw [← h.2]; exact val_lt h.1

theorem Lo.nil : Lo [] 0 := ⟨by simp, rfl⟩
theorem Dig.nil : Dig [] 0 := ⟨Lo.nil, by simp⟩

theorem Lo.drop_last {l : List Nat} {N : Nat} (h : Lo (l ++ [0]) N) : Lo l N :=
  ⟨fun d hd => h.1 d (by simp [hd]), by have := h.2; rw [val_snoc] at this; simpa using this⟩

theorem Lo.snoc {l : List Nat} {N d : Nat} (h : Lo l N) (hd : d < 4294967296) : Lo (l ++ [d]) (N + 4294967296 ^ l.length * d) :=
  ⟨fun x hx => by
    rcases List.mem_append.1 hx with hx | hx
    · exact h.1 x hx
    · simp at hx; omega, by rw [val_snoc, h.2]⟩

theorem take_succ_getD (l : List Nat) (n : Nat) (h : n < l.length) : l.take (n + 1) = l.take n ++ [l.getD n 0] := by
  rw [List.take_succ_eq_append_getElem h]; simp [List.getD_eq_getElem?_getD, h]

/-- Behind a take of n + 1 whose last digit is 0, n are enough. -/
theorem Lo.take_zero {l : List Nat} {N n : Nat} (h : Lo (l.take (n + 1)) N) (hn : n < l.length) (h0 : l.getD n 0 = 0) : Lo (l.take n) N := by
  rw [take_succ_getD l n hn, h0] at h; exact h.drop_last

theorem Dig.of_take {l : List Nat} {N n : Nat} (h : Lo (l.take n) N) (hn : n ≤ l.length) (h0 : n = 0 ∨ l.getD (n - 1) 0 ≠ 0) : Dig (l.take n) N := by
  refine ⟨h, ?_⟩
  rcases n with _ | n
  · simp
  · rw [take_succ_getD l n (by omega)]
    simp only [Nat.add_sub_cancel] at h0
    have h1 : l.getD n 0 ≠ 0 := by
      rcases h0 with h0 | h0
      · omega
      · exact h0
    rw [List.getLast?_append]; simp only [List.getLast?_singleton, Option.some_or]; intro hh; injection hh with hh; exact h1 hh

/-- A number whose last digit is not 0 is not small. -/
theorem Dig.pos {l : List Nat} {N : Nat} (h : Dig l N) (hl : l ≠ []) : 4294967296 ^ (l.length - 1) ≤ N := by
  obtain ⟨⟨hd, hv⟩, hz⟩ := h
  rcases List.eq_nil_or_concat l with rfl | ⟨a, d, rfl⟩
  · exact absurd rfl hl
  · simp only [List.concat_eq_append] at *
    rw [val_snoc] at hv
    simp at hz
    have : 4294967296 ^ a.length * 1 ≤ 4294967296 ^ a.length * d := Nat.mul_le_mul_left _ (by omega)
    simp
    omega

theorem Dig.len_le {l : List Nat} {N k : Nat} (h : Dig l N) (hN : N < 4294967296 ^ k) : l.length ≤ k := by
  rcases l with _ | ⟨d, l⟩
  · simp
  · have h1 := h.pos (by simp)
    have h2 : 4294967296 ^ (d :: l).length ≤ 4294967296 ^ k ∨ (d :: l).length ≤ k := by
      rcases Nat.lt_or_ge k (d :: l).length with hk | hk
      · exfalso
        have h3 : 4294967296 ^ k ≤ 4294967296 ^ ((d :: l).length - 1) := Nat.pow_le_pow_right (by omega) (by omega)
        omega
      · exact .inr hk
    rcases h2 with h2 | h2
    · exact (Nat.pow_le_pow_iff_right (by omega)).1 h2
    · exact h2

theorem Dig.zero_iff {l : List Nat} {N : Nat} (h : Dig l N) : l = [] ↔ N = 0 := by
  constructor
  · rintro rfl; exact h.1.2.symm
  · intro h0
    rcases l with _ | ⟨d, l⟩
    · rfl
    · have h1 := h.pos (by simp)
      have : 0 < 4294967296 ^ ((d :: l).length - 1) := Nat.pow_pos (by omega)
      omega

/-- A digit less: fewer digits write a lesser number. -/
theorem Dig.lt_of_len {l m : List Nat} {N M : Nat} (h : Dig l N) (k : Dig m M) (hlt : l.length < m.length) : N < M := by
  have h1 := h.1.lt
  have h2 := k.pos (by rintro rfl; simp at hlt)
  have h3 : 4294967296 ^ l.length ≤ 4294967296 ^ (m.length - 1) := Nat.pow_le_pow_right (by omega) (by omega)
  omega

theorem pow_split (n : Nat) (h : 0 < n) : 4294967296 ^ n = 4294967296 ^ (n - 1) * 4294967296 := by
  obtain ⟨k, rfl⟩ := Nat.exists_eq_succ_of_ne_zero (by omega : n ≠ 0)
  simp [Nat.pow_succ]

end Go.Proofs.YtifldnkcheobhaaDoor.Mth
