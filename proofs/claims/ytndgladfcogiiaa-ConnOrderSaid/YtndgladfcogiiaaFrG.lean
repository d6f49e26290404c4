/- A store of what stands there already. -/
import Derived.Test.YtndgladfcogiiaaFrE
namespace Go.Proofs.Ytndgladfcogiiaa
theorem setCell_id {w : World} {b i : Nat} {v : Value} (h : w.cell? ⟨b, i, none⟩ = some v) : w.setCell ⟨b, i, none⟩ v = w := by
  have e : (w.heap.modify b fun
      | .cells c elem frozen => .cells (if (none : Option Nat).isSome then c else c.setIfInBounds i v) elem frozen
      | o => o) = w.heap := by
    apply Array.ext_getElem?
    intro k
    rw [Array.getElem?_modify]
    by_cases hk : b = k
    · subst hk
      rw [if_pos rfl]
      unfold World.cell? at h
      simp only at h
      cases hb : w.heap[b]? with
      | none => rfl
      | some o =>
        rw [hb] at h
        cases o with
        | cells c t f =>
          simp at h
          have hc : c.setIfInBounds i v = c := by
            apply Array.ext_getElem?
            intro j
            rw [Array.getElem?_setIfInBounds]
            by_cases hj : i = j
            · subst hj
              rw [if_pos rfl, h]
              split
              · rfl
              · rename_i hn; exact absurd (Array.getElem?_eq_some_iff.1 h).1 hn
            · rw [if_neg hj]
          simp [hc]
        | _ => rfl
    · rw [if_neg hk]
  unfold World.setCell
  cases w
  simp only at e ⊢
  simp only [World.mk.injEq, and_true]
  exact e
end Go.Proofs.Ytndgladfcogiiaa
