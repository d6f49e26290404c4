/- Contract: slices.Clone of floats; Quantile of 3, 1, 2 at one half. -/
import Derived.Test.YtffibfnagoagcaaMetV
namespace Go.Proofs.Ytffibfnagoagcaa
open Go.RowKit Go.Shelf
set_option maxRecDepth 100000
set_option linter.unusedVariables false

theorem float_info : (Try.prog.info? 27).map (fun i => (i.zero, i.size, i.bytes)) = some (some (.float .f64 0), 1, 8) := by kernel_rfl
theorem clone_any (w : World) (b off n c : Nat) (xs : List Nat) (h : ArgF w w.heap.size (some ⟨b, off, none⟩) n c xs) (h0 : 0 < n) (h2 : n ≤ 4096) :
    Calls Try.prog 53 #[.slice (some ⟨b, off, none⟩) n c] w fun e w' => ∃ g cap, e = .returned (.slice (some ⟨g, 0, none⟩) n cap) ∧ w.heap.size ≤ g ∧ (∀ j, j < n → w'.cell? ⟨g, j, none⟩ = some (.float .f64 (xs.getD j 0))) ∧ (∀ j, w'.frozen? ⟨g, j, none⟩ = false) ∧ n ≤ cap ∧ cap ≤ maxLen ∧ g < w'.heap.size ∧ Below w.heap.size w w' := by
  obtain ⟨i0, hi, hz0, hz1, hz2⟩ := info_parts float_info
  have hl := h.len
  obtain ⟨bb, off', e0, hB, hcell⟩ := h.at_ h0
  simp only [Option.some.injEq, Addr.mk.injEq, and_true] at e0
  obtain ⟨rfl, rfl⟩ := e0
  have hget : ∀ j, j < n → (xs.map (fun x => Value.float .f64 x))[j]? = some (.float .f64 (xs.getD j 0)) := fun j hj => by
    rw [List.getElem?_map, List.getD_eq_getElem?_getD, List.getElem?_eq_getElem (by omega)]; rfl
  refine (Try.slices_Clone i0 _ 1 8 hi hz0 hz1 hz2 (by rfl) (by omega) (fun w => Try.sizeOf27 w) b off n c (xs.map (fun x => Value.float .f64 x)) w (by simp [hl]) (by unfold maxLen; omega) (by omega) ?_ ?_).mono ?_
  · intro j u hj
    have hjn : j < n := by
      rcases Nat.lt_or_ge j n with h | h
      · exact h
      · rw [List.getElem?_eq_none (by simp; omega)] at hj; cases hj
    rw [hget j hjn] at hj
    injection hj with hj
    subst hj
    exact hcell j hjn
  · intro u hu
    obtain ⟨x, _, rfl⟩ := List.mem_map.1 hu
    rfl
  · rintro e w' ⟨v', rfl, hown, hne, hb⟩
    have hown2 := hown
    rcases hown.2 with ⟨q1, q2⟩ | ⟨g, cap, cur, q1, q2, q3, q4, q5, q6⟩
    · exfalso; omega
    · subst q1
      refine ⟨g, cap, rfl, q2, fun j hj => ?_, fun j => World.ownsRow.frozenAt hown2 j, q4, q5, ?_, hb⟩
      · rw [World.ownsRow.cellAt hown2 j (by omega)]; exact hget j hj
      · rcases Nat.lt_or_ge g w'.heap.size with h | h
        · exact h
        · rw [Array.getElem?_eq_none h] at q3; cases q3
end Go.Proofs.Ytffibfnagoagcaa
