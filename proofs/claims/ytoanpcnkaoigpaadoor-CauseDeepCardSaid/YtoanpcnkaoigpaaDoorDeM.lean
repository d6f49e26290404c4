/- A chain of calls, each of which remembers a function: what its run gives. -/
import Derived.Test.YtoanpcnkaoigpaaDoorLwB
namespace Go.Proofs.YtoanpcnkaoigpaaDoor
set_option maxRecDepth 100000
set_option linter.unusedVariables false
set_option linter.unusedSimpArgs false

def deepF (d kk : Nat) (a : ActV) (j : Nat) : List ActV :=
  if j < d then [(3, (d : Int) + 1 + (j : Int)), (2, (j : Int) + 1), (1, 100 + (j : Int))]
  else if j = d then [a]
  else if j = d + 1 + kk then [(5, 0), (1, ((j - (d + 1) : Nat) : Int))] else [(1, ((j - (d + 1) : Nat) : Int))]
def deepP (d kk : Nat) (a : ActV) : List (List ActV) := (List.range (2 * d + 1)).map (deepF d kk a)
def deepE (d kk : Nat) (e : PanV) (i : Nat) : List MarkV := (if i < kk ∧ kk < d then [(1, 0, 100 + (i : Int))] else []) ++ ((if i = kk then [(5, e.1, e.2)] else []) ++ [(1, 0, (i : Int))])
def deepM (d kk : Nat) (e : PanV) : Nat → List MarkV
  | 0 => []
  | t + 1 => deepM d kk e t ++ deepE d kk e (d - 1 - t)
def deepO (d kk : Nat) (e : PanV) (i : Nat) : Option PanV := if i ≤ kk ∧ kk < d then none else some e
theorem deepP_len (d kk : Nat) (a : ActV) : (deepP d kk a).length = 2 * d + 1 := by simp [deepP]
theorem deepP_at {d kk j : Nat} (a : ActV) (h : j < 2 * d + 1) : (deepP d kk a)[j]? = some (deepF d kk a j) := by simp [deepP, h]
theorem deepP_get {d kk j : Nat} (a : ActV) (h : j < 2 * d + 1) : (deepP d kk a).getD j [] = deepF d kk a j := by rw [List.getD_eq_getElem?_getD, deepP_at a h]; rfl
theorem deepF_n {d kk i : Nat} (a : ActV) (hk : i ≠ kk) : deepF d kk a (d + 1 + i) = [(1, (i : Int))] := by
  simp only [deepF, if_neg (show ¬ d + 1 + i < d by omega), if_neg (show ¬ d + 1 + i = d by omega), if_neg (show ¬ d + 1 + i = d + 1 + kk by omega), show d + 1 + i - (d + 1) = i by omega]
theorem deepF_k {d kk : Nat} (a : ActV) : deepF d kk a (d + 1 + kk) = [(5, 0), (1, (kk : Int))] := by
  simp only [deepF, if_neg (show ¬ d + 1 + kk < d by omega), if_neg (show ¬ d + 1 + kk = d by omega), if_true, show d + 1 + kk - (d + 1) = kk by omega]
theorem run_defN {d kk i D : Nat} (a : ActV) (hi : i < d) (hk : i ≠ kk) (c : Option PanV) (s : CaS) (hf : 0 < s.fuel) : runV (deepP d kk a) (D + 1) (d + 1 + i) c s = ⟨none, c, ⟨s.fuel - 1, s.marks ++ [(1, 0, (i : Int))]⟩⟩ := by
  have hne : ¬ s.fuel = 0 := by omega
  simp only [runV, deepP_get a (show d + 1 + i < 2 * d + 1 by omega), deepF_n a hk, actsV, if_neg hne, if_true, leaveV]
  rfl
theorem run_defK {d kk D : Nat} (a : ActV) (hi : kk < d) (e : PanV) (s : CaS) (hf : 1 < s.fuel) : runV (deepP d kk a) (D + 1) (d + 1 + kk) (some e) s = ⟨none, none, ⟨s.fuel - 2, s.marks ++ [(5, e.1, e.2), (1, 0, (kk : Int))]⟩⟩ := by
  have hne : ¬ s.fuel = 0 := by omega
  have hne2 : ¬ (s.burn.mark 5 (noneV (some e))).fuel = 0 := by simp [CaS.burn, CaS.mark]; omega
  simp only [runV, deepP_get a (show d + 1 + kk < 2 * d + 1 by omega), deepF_k a, actsV, if_neg hne, if_neg hne2, if_true, leaveV, show ¬ (5 : Nat) = 1 by decide, show ¬ (5 : Nat) = 2 by decide, show ¬ (5 : Nat) = 3 by decide, show ¬ (5 : Nat) = 4 by decide, if_false]
  simp [CaS.burn, CaS.mark, noneV, Nat.sub_sub]
theorem deep_run {d kk K : Nat} {n : Int} {e : PanV} (hK : 11 ≤ K) (he : endV K n = e) : ∀ (t i : Nat), i + t = d → ∀ D, t + 1 ≤ D → ∀ s : CaS, 6 * t + 1 ≤ s.fuel → ∃ U, U ≤ 6 * t + 1 ∧ runV (deepP d kk (K, n)) D i none s = ⟨deepO d kk e i, none, ⟨s.fuel - U, s.marks ++ deepM d kk e t⟩⟩ := by
  intro t
  induction t with
  | zero =>
    intro i hi D hD s hs
    obtain rfl : i = d := by omega
    obtain ⟨D, rfl⟩ : ∃ D', D = D' + 1 := ⟨D - 1, by omega⟩
    have hne : ¬ s.fuel = 0 := by omega
    refine ⟨1, by omega, ?_⟩
    have hF : deepF i kk (K, n) i = [(K, n)] := by simp [deepF]
    simp only [runV, deepP_get _ (show i < 2 * i + 1 by omega), hF, actsV, if_neg hne, if_neg (show ¬ K = 1 by omega), if_neg (show ¬ K = 2 by omega), if_neg (show ¬ K = 3 by omega), if_neg (show ¬ K = 4 by omega), if_neg (show ¬ K = 5 by omega), leaveV, he, deepO, if_neg (show ¬ (i ≤ kk ∧ kk < i) by omega), deepM, List.append_nil]
    rfl
  | succ t ih =>
    intro i hi D hD s hs
    obtain ⟨D, rfl⟩ : ∃ D', D = D' + 1 + 1 := ⟨D - 2, by omega⟩
    have hid : i < d := by omega
    have hF : deepF d kk (K, n) i = [(3, (d : Int) + 1 + (i : Int)), (2, (i : Int) + 1), (1, 100 + (i : Int))] := by simp only [deepF, if_pos hid]
    obtain ⟨U, hU, hr⟩ := ih (i + 1) (by omega) (D + 1) (by omega) s.burn.burn (by simp [CaS.burn]; omega)
    have hne : ¬ s.fuel = 0 := by omega
    have hne2 : ¬ s.burn.fuel = 0 := by simp [CaS.burn]; omega
    have hx : ((d : Int) + 1 + (i : Int)).toNat = d + 1 + i := by omega
    have hy : ((i : Int) + 1).toNat = i + 1 := by omega
    have hb : s.burn.burn = ⟨s.fuel - 2, s.marks⟩ := by simp [CaS.burn, Nat.sub_sub]
    rw [hb] at hr
    have hdi : d - 1 - t = i := by omega
    have hnz : ¬ s.fuel - 2 - U = 0 := by omega
    rw [runV, deepP_get _ (show i < 2 * d + 1 by omega), hF]
    simp only [actsV, if_neg hne, if_neg hne2, show ¬ (3 : Nat) = 1 by decide, show ¬ (3 : Nat) = 2 by decide, show ¬ (2 : Nat) = 1 by decide, if_false, if_true, hx, hy, hb, hr, deepM, hdi]
    by_cases ho : i + 1 ≤ kk ∧ kk < d
    · refine ⟨4 + U, by omega, ?_⟩
      simp only [deepO, if_pos ho, if_pos (show i ≤ kk ∧ kk < d by omega), if_neg hnz, leaveV]
      rw [run_defN (K, n) hid (by omega) none _ (by simp [CaS.burn, CaS.mark]; omega)]
      simp only [CaS.burn, CaS.mark, deepE, if_pos (show i < kk ∧ kk < d by omega), if_neg (show ¬ i = kk by omega), Option.none_or, List.append_assoc, List.nil_append]
      rw [show s.fuel - 2 - U - 1 - 1 = s.fuel - (4 + U) by omega]
    · simp only [deepO, if_neg ho, leaveV]
      by_cases hk : i = kk
      · subst hk
        refine ⟨4 + U, by omega, ?_⟩
        rw [run_defK (K, n) hid e _ (by dsimp only; omega)]
        simp only [if_pos (show i ≤ i ∧ i < d by omega), Option.none_or, deepE, if_neg (show ¬ (i < i ∧ i < d) by omega), if_true, List.append_assoc, List.nil_append, List.cons_append]
        rw [show s.fuel - 2 - U - 2 = s.fuel - (4 + U) by omega]
      · refine ⟨3 + U, by omega, ?_⟩
        rw [run_defN (K, n) hid hk (some e) _ (by dsimp only; omega)]
        simp only [if_neg (show ¬ (i ≤ kk ∧ kk < d) by omega), Option.none_or, deepE, if_neg (show ¬ (i < kk ∧ kk < d) by omega), if_neg hk, List.append_assoc, List.nil_append]
        rw [show s.fuel - 2 - U - 1 = s.fuel - (3 + U) by omega]
theorem deepP_run {d kk K : Nat} {n : Int} {e : PanV} (hd : d ≤ 12) (hK : 11 ≤ K) (he : endV K n = e) : (runP (deepP d kk (K, n))).out = deepO d kk e 0 ∧ (runP (deepP d kk (K, n))).st.marks = deepM d kk e d := by
  obtain ⟨U, hU, hr⟩ := deep_run (d := d) (kk := kk) hK he d 0 (by omega) (2 * d + 1) (by omega) ⟨4096, []⟩ (by dsimp only; omega)
  unfold runP
  rw [deepP_len, hr]
  exact ⟨rfl, by simp⟩
theorem deepP_ok {d kk K : Nat} {n : Int} (hd : d ≤ 12) (hd0 : 1 ≤ d) (hK : 11 ≤ K ∧ K ≤ 24) (h1 : -9223372036854775808 ≤ n) (h2 : n ≤ 9223372036854775807) : ProgOk (deepP d kk (K, n)) := by
  refine ⟨by rw [deepP_len]; omega, by rw [deepP_len]; omega, fun i f hf => ?_⟩
  have hi : i < 2 * d + 1 := by
    have := (List.getElem?_eq_some_iff.1 hf).1
    rw [deepP_len] at this
    exact this
  rw [deepP_at _ hi] at hf
  injection hf with hf
  subst hf
  rw [deepP_len]
  unfold deepF
  split
  · rename_i hid
    refine ⟨by simp, fun x hx => ?_⟩
    simp only [List.mem_cons, List.not_mem_nil, or_false] at hx
    rcases hx with rfl | rfl | rfl
    · refine ⟨⟨by simp, Or.inr (Or.inr (Or.inr (Or.inl ⟨Or.inr rfl, ?_, ?_⟩)))⟩, ?_, ?_⟩ <;> dsimp only <;> omega
    · refine ⟨⟨by simp, Or.inr (Or.inr (Or.inr (Or.inl ⟨Or.inl rfl, ?_, ?_⟩)))⟩, ?_, ?_⟩ <;> dsimp only <;> omega
    · exact ⟨⟨by simp, Or.inl rfl⟩, by dsimp only; omega, by dsimp only; omega⟩
  split
  · refine ⟨by simp, fun x hx => ?_⟩
    simp only [List.mem_cons, List.not_mem_nil, or_false] at hx
    subst hx
    exact ⟨⟨by dsimp only; omega, Or.inr (Or.inr (Or.inr (Or.inr hK)))⟩, h1, h2⟩
  split
  · refine ⟨by simp, fun x hx => ?_⟩
    simp only [List.mem_cons, List.not_mem_nil, or_false] at hx
    rcases hx with rfl | rfl
    · exact ⟨⟨by simp, Or.inr (Or.inr (Or.inl rfl))⟩, by simp, by simp⟩
    · exact ⟨⟨by simp, Or.inl rfl⟩, by dsimp only; omega, by dsimp only; omega⟩
  · refine ⟨by simp, fun x hx => ?_⟩
    simp only [List.mem_cons, List.not_mem_nil, or_false] at hx
    subst hx
    exact ⟨⟨by simp, Or.inl rfl⟩, by dsimp only; omega, by dsimp only; omega⟩
end Go.Proofs.YtoanpcnkaoigpaaDoor
