/- Contract: Quantile of 3, 1, 2 at one half. -/
import Derived.Test.YtffibfnagoagcaaMetU
namespace Go.Proofs.Ytffibfnagoagcaa
open Go.RowKit Go.Shelf Go.Sort
set_option maxRecDepth 100000
set_option linter.unusedVariables false

def f1 : F64 := 4607182418800017408
def f2 : F64 := 4611686018427387904
def f3 : F64 := 4613937818241073152
theorem mid3 (a b c : F64) (hp : [a, b, c].Perm [f3, f1, f2]) (h1 : ltOf cfF b a = false) (h2 : ltOf cfF c b = false) : b = f2 := by
  have m1 : f1 ∈ [a, b, c] := hp.mem_iff.2 (by simp)
  have m2 : f2 ∈ [a, b, c] := hp.mem_iff.2 (by simp)
  have m3 : f3 ∈ [a, b, c] := hp.mem_iff.2 (by simp)
  have ka : a ∈ [f3, f1, f2] := hp.mem_iff.1 (by simp)
  have kb : b ∈ [f3, f1, f2] := hp.mem_iff.1 (by simp)
  have kc : c ∈ [f3, f1, f2] := hp.mem_iff.1 (by simp)
  clear hp
  simp only [List.mem_cons, List.not_mem_nil, or_false] at ka kb kc
  rcases kb with rfl | rfl | rfl
  · rcases ka with rfl | rfl | rfl <;> rcases kc with rfl | rfl | rfl <;> revert m1 m2 m3 h1 h2 <;> decide +kernel
  · rcases ka with rfl | rfl | rfl <;> rcases kc with rfl | rfl | rfl <;> revert m1 m2 m3 h1 h2 <;> decide +kernel
  · rfl
theorem mid_of (d' : Array F64) (hp : PermIn 0 3 #[f3, f1, f2] d') (hs : SortedIn (ltOf cfF) 0 3 d') : d'.size = 3 ∧ d'[1]! = f2 := by
  obtain ⟨h1, _, h3⟩ := hp
  have hz : d'.size = 3 := h1
  refine ⟨hz, ?_⟩
  have e : d' = #[d'[0]!, d'[1]!, d'[2]!] := by
    apply Array.ext
    · simp [hz]
    · intro i hi hj
      have : i = 0 ∨ i = 1 ∨ i = 2 := by omega
      rcases this with rfl | rfl | rfl <;> simp [getElem!_pos, hz]
  have s1 := hs 0 1 (by omega) (by omega) (by omega)
  have s2 := hs 1 2 (by omega) (by omega) (by omega)
  refine mid3 _ _ _ ?_ s1 s2
  have h4 : (d'.extract 0 3).toList = [d'[0]!, d'[1]!, d'[2]!] := by
    have : d'.extract 0 3 = d' := by simp [← hz]
    rw [this]
    conv => lhs; rw [e]
  rw [h4] at h3
  exact h3
end Go.Proofs.Ytffibfnagoagcaa
