/- Epochs: a call that is stepped alone. -/
import Derived.Test.YtpjgpiiibgogeaaEpK
namespace Go.Proofs.Ytpjgpiiibgogeaa
set_option linter.unusedVariables false

/-- Nobody is pinned in an epoch that isn't E (of the workers below n). -/
def okP (s : EpV) (E n : Nat) : Prop := ∀ q, q < n → s.P q = 0 ∨ s.P q = E + 1
/-- In the midst of a call of i that began in s0, and was stepped alone: at most rem steps are left. -/
structure AlP (W i op : Nat) (t : Int) (s0 s : EpV) (rem : Nat) : Prop where
  inv : InvE W s
  E : s.E = s0.E
  wk : ∀ j, j ≠ i → s.wk j = s0.wk j
  P : ∀ j, j ≠ i → s.P j = s0.P j
  Pi : op ≠ 1 → s.P i = s0.P i
  pin : (s.wk i).pin = (s0.wk i).pin
  gs : (s.wk i).gs = (s0.wk i).gs
  y : (op = 1 ∧ (((s.wk i).nx = .pin ∧ 3 ≤ rem) ∨ ((s.wk i).nx = .mark 0 s.E ∧ 2 ≤ rem) ∨ ((s.wk i).nx = .confirm s.E ∧ 1 ≤ rem))) ∨
    (op = 2 ∧ (s.wk i).nx = .unpin ∧ 1 ≤ rem) ∨ (op = 3 ∧ (s.wk i).nx = .retire t ∧ 1 ≤ rem) ∨
    (op = 4 ∧ (((s.wk i).nx = .advance ∧ W + 2 ≤ rem) ∨ (∃ j, j < W ∧ (s.wk i).nx = .look j s.E ∧ W + 1 ≤ rem + j ∧ okP s s.E j) ∨ ((s.wk i).nx = .move s.E ∧ 1 ≤ rem ∧ okP s s.E W))) ∨
    (op = 5 ∧ (s.wk i).nx = .collect ∧ 1 ≤ rem)
/-- How it ends. -/
structure FinP (W i op : Nat) (t : Int) (s0 : EpV) (q : EqV) (s : EpV) : Prop where
  inv : InvE W s
  d : q.d = true
  nx : (s.wk i).nx = .none
  wk : ∀ j, j ≠ i → s.wk j = s0.wk j
  P : ∀ j, j ≠ i → s.P j = s0.P j
  E : op ≠ 4 → s.E = s0.E
  pin : op ≠ 1 → op ≠ 2 → (s.wk i).pin = (s0.wk i).pin
  gs : op ≠ 3 → op ≠ 5 → (s.wk i).gs = (s0.wk i).gs
  th : op ≠ 5 → q.th = []
  o1 : op = 1 → q = okEq s0.E ∧ (s.wk i).pin = s0.E + 1
  o2 : op = 2 → q = okEq 0 ∧ (s.wk i).pin = 0
  o3 : op = 3 → q = okEq s0.E ∧ (s.wk i).gs = (s0.wk i).gs ++ [(t, s0.E)]
  o4 : op = 4 → (okP s0 s0.E W ∧ q = okEq (s0.E + 1 : Nat) ∧ s.E = s0.E + 1) ∨ (¬ okP s0 s0.E W ∧ q = ⟨true, 9, 0, []⟩ ∧ s.E = s0.E)
  o5 : op = 5 → q = ⟨true, 0, oldN s0.E (s0.wk i).gs, ((s0.wk i).gs.take (oldN s0.E (s0.wk i).gs)).map (·.1)⟩ ∧ (s.wk i).gs = (s0.wk i).gs.drop (oldN s0.E (s0.wk i).gs)
theorem okP_of {W i n : Nat} {s s0 : EpV} {E : Nat} (hP : ∀ j, j ≠ i → s.P j = s0.P j) (hi : s.P i = s0.P i) : okP s E n ↔ okP s0 E n := by
  have : ∀ q, s.P q = s0.P q := fun q => by
    by_cases h : q = i
    · subst h; exact hi
    · exact hP q h
  unfold okP
  simp only [this]
section
variable {W i op : Nat} {t : Int} {s0 s : EpV} {rem : Nat}
theorem AlP.start (h : InvE W s) (hi : i < W) (h1 : 1 ≤ op) (h5 : op ≤ 5) (hc : checkE (s.wk i) op = 0) (t : Int) : AlP W i op t s (s.nx i (firstE op t)) (W + 2) := by
  have e := s.wk_nx i (firstE op t)
  refine ⟨h.start hi h1 h5 hc t, rfl, fun j hj => s.wk_nx' i _ hj, fun j _ => rfl, fun _ => rfl, by rw [e], by rw [e], ?_⟩
  rw [e]
  rcases (by omega : op = 1 ∨ op = 2 ∨ op = 3 ∨ op = 4 ∨ op = 5) with rfl | rfl | rfl | rfl | rfl
  · exact .inl ⟨rfl, .inl ⟨rfl, by omega⟩⟩
  · exact .inr (.inl ⟨rfl, rfl, by omega⟩)
  · exact .inr (.inr (.inl ⟨rfl, rfl, by omega⟩))
  · exact .inr (.inr (.inr (.inl ⟨rfl, .inl ⟨rfl, by omega⟩⟩)))
  · exact .inr (.inr (.inr (.inr ⟨rfl, rfl, by omega⟩)))
theorem AlP.isEN (h : AlP W i op t s0 s rem) : isEN (s.wk i).nx = true := by
  rcases h.y with ⟨_, ⟨e, _⟩ | ⟨e, _⟩ | ⟨e, _⟩⟩ | ⟨_, e, _⟩ | ⟨_, e, _⟩ | ⟨_, ⟨e, _⟩ | ⟨_, _, e, _⟩ | ⟨e, _⟩⟩ | ⟨_, e, _⟩ <;> rw [e] <;> rfl
theorem AlP.pos (h : AlP W i op t s0 s rem) : 1 ≤ rem := by
  rcases h.y with ⟨_, ⟨_, e⟩ | ⟨_, e⟩ | ⟨_, e⟩⟩ | ⟨_, _, e⟩ | ⟨_, _, e⟩ | ⟨_, ⟨_, e⟩ | ⟨_, _, _, e, _⟩ | ⟨_, e, _⟩⟩ | ⟨_, _, e⟩ <;> omega
/-- The step to what comes next, but for the worker's own line and word all the same. -/
theorem AlP.next (h : AlP W i op t s0 s rem) (hi : i < W) : ((stepE W s i).q.d = true ∧ FinP W i op t s0 (stepE W s i).q ((stepE W s i).s.nx i (stepE W s i).y)) ∨
    ((stepE W s i).q = noEq ∧ ∃ rem', rem' + 1 ≤ rem ∧ AlP W i op t s0 ((stepE W s i).s.nx i (stepE W s i).y) rem') := by
  have hinv := h.inv.step hi h.isEN
  have hf := h.inv.form i hi
  have hy := hf.y
  have hl := h.inv.len
  have hE := h.E
  rcases h.y with ⟨ho, hh⟩ | ⟨ho, e, hr⟩ | ⟨ho, e, hr⟩ | ⟨ho, hh⟩ | ⟨ho, e, hr⟩
  · subst ho
    rcases hh with ⟨e, hr⟩ | ⟨e, hr⟩ | ⟨e, hr⟩
    · have es : stepE W s i = ⟨noEq, s, .mark 0 s.E⟩ := by simp only [stepE, e]
      rw [es] at hinv ⊢
      refine .inr ⟨rfl, 2, by omega, ⟨hinv, hE, fun j hj => by rw [EpV.wk_nx' _ _ _ hj]; exact h.wk j hj, fun j hj => h.P j hj, fun x => absurd rfl x, by rw [EpV.wk_nx]; exact h.pin, by rw [EpV.wk_nx]; exact h.gs, .inl ⟨rfl, .inr (.inl ⟨by rw [EpV.wk_nx]; rfl, by omega⟩)⟩⟩⟩
    · rw [e] at hy
      have es : stepE W s i = ⟨noEq, s.setW (i + 1) (s.E + 1), .confirm s.E⟩ := by simp only [stepE, e]; rw [if_pos hy.2.1]
      rw [es] at hinv ⊢
      refine .inr ⟨rfl, 1, by omega, ⟨hinv, by rw [EpV.E_nx, EpV.E_setW]; exact hE, fun j hj => by rw [EpV.wk_nx' _ _ _ hj]; exact h.wk j hj, fun j hj => by rw [EpV.P_nx, EpV.P_setW' _ _ _ hj]; exact h.P j hj, fun x => absurd rfl x, by rw [EpV.wk_nx]; exact h.pin, by rw [EpV.wk_nx]; exact h.gs, .inl ⟨rfl, .inr (.inr ⟨?_, by omega⟩)⟩⟩⟩
      rw [EpV.wk_nx, EpV.E_nx, EpV.E_setW]
    · rw [e] at hy
      have es : stepE W s i = ⟨okEq s.E, s.setK i { s.wk i with pin := s.E + 1 }, .none⟩ := by simp only [stepE, e]; rw [if_pos trivial]
      rw [es] at hinv ⊢
      refine .inl ⟨rfl, ⟨hinv, rfl, by rw [EpV.wk_nx], fun j hj => by rw [EpV.wk_nx' _ _ _ hj, EpV.wk_setK' _ _ _ hj]; exact h.wk j hj, fun j hj => h.P j hj, fun _ => hE, fun x => absurd rfl x, fun _ _ => by rw [EpV.wk_nx, EpV.wk_setK]; exact h.gs, fun _ => rfl, fun _ => ⟨by rw [hE], by rw [EpV.wk_nx, EpV.wk_setK, hE]⟩, by omega, by omega, by omega, by omega⟩⟩
  · subst ho
    rw [e] at hy
    have es : stepE W s i = ⟨okEq 0, (s.setW (i + 1) 0).setK i { s.wk i with pin := 0 }, .none⟩ := by simp only [stepE, e]; rw [if_pos (show s.P i = (s.wk i).pin from hy)]
    rw [es] at hinv ⊢
    refine .inl ⟨rfl, ⟨hinv, rfl, by rw [EpV.wk_nx], fun j hj => by rw [EpV.wk_nx' _ _ _ hj, EpV.wk_setK' _ _ _ hj]; exact h.wk j hj, fun j hj => (s.P_setW' _ _ hj).trans (h.P j hj), fun _ => (s.E_setW _ _).trans hE, fun _ x => absurd rfl x, fun _ _ => by rw [EpV.wk_nx, EpV.wk_setK]; exact h.gs, fun _ => rfl, by omega, fun _ => ⟨rfl, by rw [EpV.wk_nx, EpV.wk_setK]⟩, by omega, by omega, by omega⟩⟩
  · subst ho
    have es : stepE W s i = ⟨okEq s.E, s.setK i { s.wk i with gs := (s.wk i).gs ++ [(t, s.E)] }, .none⟩ := by simp only [stepE, e]
    rw [es] at hinv ⊢
    refine .inl ⟨rfl, ⟨hinv, rfl, by rw [EpV.wk_nx], fun j hj => by rw [EpV.wk_nx' _ _ _ hj, EpV.wk_setK' _ _ _ hj]; exact h.wk j hj, fun j hj => h.P j hj, fun _ => hE, fun _ _ => by rw [EpV.wk_nx, EpV.wk_setK]; exact h.pin, fun x => absurd rfl x, fun _ => rfl, by omega, by omega, fun _ => ⟨by rw [hE], by rw [EpV.wk_nx, EpV.wk_setK, hE, h.gs]⟩, by omega, by omega⟩⟩
  · subst ho
    have hPi := h.Pi (by omega)
    rcases hh with ⟨e, hr⟩ | ⟨j, hj, e, hr, hok⟩ | ⟨e, hr, hok⟩
    · have es : stepE W s i = ⟨noEq, s, .look 0 s.E⟩ := by simp only [stepE, e]
      rw [es] at hinv ⊢
      refine .inr ⟨rfl, W + 1, by omega, ⟨hinv, hE, fun j hj => by rw [EpV.wk_nx' _ _ _ hj]; exact h.wk j hj, fun j hj => h.P j hj, fun _ => hPi, by rw [EpV.wk_nx]; exact h.pin, by rw [EpV.wk_nx]; exact h.gs, .inr (.inr (.inr (.inl ⟨rfl, .inr (.inl ⟨0, by omega, by rw [EpV.wk_nx]; rfl, by omega, fun q hq => by omega⟩)⟩)))⟩⟩
    · by_cases hv : s.P j ≠ 0 ∧ s.P j ≠ s.E + 1
      · have es : stepE W s i = ⟨⟨true, 9, 0, []⟩, s, .none⟩ := by simp only [stepE, e]; rw [if_pos hv]
        rw [es] at hinv ⊢
        have hno : ¬ okP s0 s0.E W := fun hk => by
          have := (okP_of (W := W) (n := W) (E := s0.E) h.P hPi).2 hk j hj
          omega
        exact .inl ⟨rfl, ⟨hinv, rfl, by rw [EpV.wk_nx], fun j hj => by rw [EpV.wk_nx' _ _ _ hj]; exact h.wk j hj, fun j hj => h.P j hj, fun x => absurd rfl x, fun _ _ => by rw [EpV.wk_nx]; exact h.pin, fun _ _ => by rw [EpV.wk_nx]; exact h.gs, fun _ => rfl, by omega, by omega, by omega, fun _ => .inr ⟨hno, rfl, hE⟩, by omega⟩⟩
      · have hok2 : okP s s.E (j + 1) := fun q hq => by
          rcases (by omega : q < j ∨ q = j) with h | h
          · exact hok q h
          · subst h; omega
        by_cases hj2 : j + 1 < W
        · have es : stepE W s i = ⟨noEq, s, .look (j + 1) s.E⟩ := by simp only [stepE, e]; rw [if_neg hv, if_pos hj2]
          rw [es] at hinv ⊢
          refine .inr ⟨rfl, rem - 1, by omega, ⟨hinv, hE, fun j hj => by rw [EpV.wk_nx' _ _ _ hj]; exact h.wk j hj, fun j hj => h.P j hj, fun _ => hPi, by rw [EpV.wk_nx]; exact h.pin, by rw [EpV.wk_nx]; exact h.gs, .inr (.inr (.inr (.inl ⟨rfl, .inr (.inl ⟨j + 1, hj2, by rw [EpV.wk_nx]; rfl, by omega, hok2⟩)⟩)))⟩⟩
        · have es : stepE W s i = ⟨noEq, s, .move s.E⟩ := by simp only [stepE, e]; rw [if_neg hv, if_neg hj2]
          rw [es] at hinv ⊢
          have hW : W = j + 1 := by omega
          refine .inr ⟨rfl, 1, by omega, ⟨hinv, hE, fun j hj => by rw [EpV.wk_nx' _ _ _ hj]; exact h.wk j hj, fun j hj => h.P j hj, fun _ => hPi, by rw [EpV.wk_nx]; exact h.pin, by rw [EpV.wk_nx]; exact h.gs, .inr (.inr (.inr (.inl ⟨rfl, .inr (.inr ⟨by rw [EpV.wk_nx]; rfl, by omega, by rw [hW]; exact hok2⟩)⟩)))⟩⟩
    · have es : stepE W s i = ⟨okEq (s.E + 1 : Nat), s.setW 0 (s.E + 1), .none⟩ := by simp only [stepE, e]; rw [if_pos trivial]; rfl
      rw [es] at hinv ⊢
      have hE2 : ((s.setW 0 (s.E + 1)).nx i .none).E = s.E + 1 := s.E_setW0 _ (by omega)
      have hok0 : okP s0 s0.E W := by rw [← hE]; exact (okP_of (W := W) h.P hPi).1 hok
      exact .inl ⟨rfl, ⟨hinv, rfl, by rw [EpV.wk_nx], fun j hj => by rw [EpV.wk_nx' _ _ _ hj]; exact h.wk j hj, fun j hj => (s.P_setW0 _ j).trans (h.P j hj), fun x => absurd rfl x, fun _ _ => by rw [EpV.wk_nx]; exact h.pin, fun _ _ => by rw [EpV.wk_nx]; exact h.gs, fun _ => rfl, by omega, by omega, by omega, fun _ => .inl ⟨hok0, by rw [hE], by rw [hE2, hE]⟩, by omega⟩⟩
  · subst ho
    have es : stepE W s i = ⟨⟨true, 0, oldN s.E (s.wk i).gs, ((s.wk i).gs.take (oldN s.E (s.wk i).gs)).map (·.1)⟩, s.setK i { s.wk i with gs := (s.wk i).gs.drop (oldN s.E (s.wk i).gs) }, .none⟩ := by simp only [stepE, e]
    rw [es] at hinv ⊢
    refine .inl ⟨rfl, ⟨hinv, rfl, by rw [EpV.wk_nx], fun j hj => by rw [EpV.wk_nx' _ _ _ hj, EpV.wk_setK' _ _ _ hj]; exact h.wk j hj, fun j hj => h.P j hj, fun _ => hE, fun _ _ => by rw [EpV.wk_nx, EpV.wk_setK]; exact h.pin, fun _ x => absurd rfl x, fun x => absurd rfl x, by omega, by omega, by omega, by omega, fun _ => ⟨by rw [hE, h.gs], by rw [EpV.wk_nx, EpV.wk_setK, hE, h.gs]⟩⟩⟩
end
end Go.Proofs.Ytpjgpiiibgogeaa
