/- A program that remembers its other functions, each of which makes a note: what its run gives. -/
import Derived.Test.YtifldnkcheobhaaDoorLwB
namespace Go.Proofs.YtifldnkcheobhaaDoor
set_option maxRecDepth 100000
set_option linter.unusedVariables false
set_option linter.unusedSimpArgs false

def defsV (l : List Nat) : List ActV := l.map fun (i : Nat) => (3, (i : Int))
def noteV (i : Nat) : List ActV := [(1, (i : Int))]
def revP (k : Nat) (a : ActV) : List (List ActV) := (defsV (List.range' 1 k) ++ [a]) :: (List.range' 1 k).map noteV
def noteM (i : Nat) : MarkV := (1, 0, (i : Int))
theorem revP_len (k : Nat) (a : ActV) : (revP k a).length = k + 1 := by simp [revP]
theorem revP_at {k i : Nat} (a : ActV) (h : i < k) : (revP k a)[i + 1]? = some (noteV (i + 1)) := by
  simp [revP, h, Nat.add_comm]
theorem acts_defs {R : Nat → Option PanV → CaS → RunR} (r : List ActV) : ∀ (l : List Nat) (b : Option PanV) (rem : List Nat) (s : CaS), l.length ≤ s.fuel →
    actsV R (defsV l ++ r) b rem s = actsV R r b (l.reverse ++ rem) ⟨s.fuel - l.length, s.marks⟩ := by
  intro l
  induction l with
  | nil => intro b rem s _; simp [defsV]
  | cons i l ih =>
    intro b rem s h
    simp only [List.length_cons] at h
    have hf : ¬ s.fuel = 0 := by omega
    have := ih b (i :: rem) s.burn (by simp [CaS.burn]; omega)
    simp only [defsV, List.map_cons, List.cons_append, actsV, if_neg hf, Int.toNat_natCast] at this ⊢
    simp only [show ¬ (3 : Nat) = 1 by decide, show ¬ (3 : Nat) = 2 by decide, if_false, if_true]
    rw [this]
    simp [CaS.burn, Nat.sub_sub, Nat.add_comm]
theorem leave_notes {R : Nat → Option PanV → CaS → RunR} : ∀ (l : List Nat) (c : Option PanV) (s : CaS), l.length ≤ s.fuel →
    (∀ i ∈ l, ∀ c (s : CaS), 0 < s.fuel → R i c s = ⟨none, c, s.burn.mark 1 (0, (i : Int))⟩) → leaveV R l c s = (c, ⟨s.fuel - l.length, s.marks ++ l.map noteM⟩) := by
  intro l
  induction l with
  | nil => intro c s _ _; simp [leaveV]
  | cons i l ih =>
    intro c s h hR
    simp only [List.length_cons] at h
    simp only [leaveV]
    rw [hR i (by simp) c s (by omega)]
    simp only [Option.none_or]
    rw [ih c _ (by simp [CaS.burn, CaS.mark]; omega) (fun j hj => hR j (by simp [hj]))]
    simp [CaS.burn, CaS.mark, noteM, Nat.sub_sub, Nat.add_comm]
theorem run_note {k d i : Nat} (a : ActV) (h1 : 1 ≤ i) (h2 : i ≤ k) (c : Option PanV) (s : CaS) (hf : 0 < s.fuel) : runV (revP k a) (d + 1) i c s = ⟨none, c, s.burn.mark 1 (0, (i : Int))⟩ := by
  obtain ⟨j, rfl⟩ : ∃ j, i = j + 1 := ⟨i - 1, by omega⟩
  have hg : (revP k a).getD (j + 1) [] = noteV (j + 1) := by rw [List.getD_eq_getElem?_getD, revP_at a (by omega)]; rfl
  have hf' : ¬ s.fuel = 0 := by omega
  simp only [runV, hg, noteV, actsV, if_neg hf', if_true, leaveV]
theorem revP_run {k : Nat} (hk : k < 20) (a : ActV) (e : Option PanV) (ms : List MarkV) (h : ∀ (R : Nat → Option PanV → CaS → RunR) (rem : List Nat) (s : CaS), 0 < s.fuel → actsV R [a] none rem s = ⟨e, none, rem, ⟨s.fuel - 1, s.marks ++ ms⟩⟩) :
    (runP (revP k a)).out = e ∧ (runP (revP k a)).st.marks = ms ++ (List.range' 1 k).reverse.map noteM := by
  unfold runP
  rw [revP_len]
  simp only [runV]
  have hg : (revP k a).getD 0 [] = defsV (List.range' 1 k) ++ [a] := rfl
  rw [hg, acts_defs [a] _ _ _ _ (by simp; omega), h _ _ _ (by simp; omega)]
  simp only [List.append_nil]
  cases k with
  | zero => simp [leaveV]
  | succ k =>
    rw [leave_notes _ _ _ (by simp; omega) (fun i hi c s hs => run_note a (by simp at hi; omega) (by simp at hi; omega) c s hs)]
    simp
theorem revP_ok {k : Nat} (hk : k < 20) (a : ActV) (ha : ActOk 0 (k + 1) a) (h1 : -9223372036854775808 ≤ a.2) (h2 : a.2 ≤ 9223372036854775807) : ProgOk (revP k a) := by
  refine ⟨by rw [revP_len]; omega, by rw [revP_len]; omega, fun i f hf => ?_⟩
  rw [revP_len]
  cases i with
  | zero =>
    simp [revP] at hf
    subst hf
    refine ⟨by simp [defsV]; omega, fun x hx => ?_⟩
    rcases List.mem_append.1 hx with hx | hx
    · simp only [defsV, List.mem_map, List.mem_range'_1] at hx
      obtain ⟨j, hj, rfl⟩ := hx
      refine ⟨⟨by simp, Or.inr (Or.inr (Or.inr (Or.inl ⟨Or.inr rfl, ?_, ?_⟩)))⟩, ?_, ?_⟩ <;> simp <;> omega
    · simp at hx; subst hx
      exact ⟨ha, h1, h2⟩
  | succ i =>
    have hi : i < k := by
      have := (List.getElem?_eq_some_iff.1 hf).1
      rw [revP_len] at this
      omega
    rw [revP_at a hi] at hf
    injection hf with hf
    subst hf
    refine ⟨by simp [noteV], fun x hx => ?_⟩
    simp [noteV] at hx
    subst hx
    exact ⟨⟨by simp, Or.inl rfl⟩, by simp; omega, by simp; omega⟩
end Go.Proofs.YtifldnkcheobhaaDoor
