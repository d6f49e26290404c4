/- A program whose functions call the next one twice or more: what its run gives till the fuel is out. -/
import Derived.Test.YtifldnkcheobhaaDoorLwB
namespace Go.Proofs.YtifldnkcheobhaaDoor
set_option maxRecDepth 100000
set_option linter.unusedVariables false
set_option linter.unusedSimpArgs false

def callV (j : Nat) : ActV := (2, (j : Int))
def fuelF (w i : Nat) (n : Int) : List ActV := (1, n) :: List.replicate (if i + 1 < 32 then w else 0) (callV (i + 1))
def fuelP (w : Nat) (n : Int) : List (List ActV) := (List.range 32).map fun i => fuelF w i n
theorem fuelP_len (w : Nat) (n : Int) : (fuelP w n).length = 32 := by simp [fuelP]
theorem fuelP_at {w i : Nat} (n : Int) (h : i < 32) : (fuelP w n)[i]? = some (fuelF w i n) := by simp [fuelP, h]
theorem acts_calls {R : Nat → Option PanV → CaS → RunR} {j G : Nat} {x : MarkV}
    (hR : ∀ s : CaS, ∃ M U, R j none s = ⟨none, none, ⟨s.fuel - U, s.marks ++ List.replicate M x⟩⟩ ∧ U ≤ s.fuel ∧ U ≤ 2 * M ∧ (0 < s.fuel → U < s.fuel → U + 1 ≤ 2 * M ∧ G ≤ M)) :
    ∀ (c : Nat) (b : Option PanV) (rem : List Nat) (s : CaS), ∃ M U, actsV R (List.replicate c (callV j)) b rem s = ⟨none, b, rem, ⟨s.fuel - U, s.marks ++ List.replicate M x⟩⟩ ∧ U ≤ s.fuel ∧ U ≤ 2 * M + 1 ∧ (0 < s.fuel → U < s.fuel → U ≤ 2 * M ∧ c * G ≤ M) := by
  intro c
  induction c with
  | zero => intro b rem s; exact ⟨0, 0, by simp [actsV], by omega, by omega, by omega⟩
  | succ c ih =>
    intro b rem s
    by_cases hf : s.fuel = 0
    · exact ⟨0, 0, by simp [List.replicate_succ, actsV, callV, hf]; cases s; simp at hf; subst hf; rfl, by omega, by omega, by omega⟩
    obtain ⟨M1, U1, e1, a1, b1, c1⟩ := hR s.burn
    obtain ⟨M2, U2, e2, a2, b2, c2⟩ := ih b rem ⟨s.burn.fuel - U1, s.burn.marks ++ List.replicate M1 x⟩
    have hbf : s.burn.fuel = s.fuel - 1 := rfl
    have hbm : s.burn.marks = s.marks := rfl
    rw [hbf] at a1 c1
    simp only [hbf] at a2 c2
    refine ⟨M1 + M2, 1 + U1 + U2, ?_, by omega, ?_, ?_⟩
    · simp only [List.replicate_succ, callV, actsV, if_neg hf, show ¬ (2 : Nat) = 1 by decide, if_false, if_true, Int.toNat_natCast, e1]
      rw [show List.replicate c ((2, (j : Int)) : ActV) = List.replicate c (callV j) from rfl, e2]
      simp only [hbf, hbm, List.append_assoc, List.replicate_append_replicate]
      rw [show s.fuel - 1 - U1 - U2 = s.fuel - (1 + U1 + U2) by omega]
    · by_cases h : U1 < s.fuel - 1
      · have := c1 (by omega) h
        omega
      · omega
    · intro _ hU
      have q1 := c1 (by omega) (by omega)
      have q2 := c2 (by omega) (by omega)
      have h5 : (c + 1) * G = c * G + G := Nat.succ_mul c G
      refine ⟨by omega, ?_⟩
      rw [h5]
      omega
theorem run_fuel {w : Nat} (hw : 2 ≤ w) (n : Int) : ∀ (d i : Nat), i < 32 → 32 ≤ d + i → ∀ s : CaS, ∃ M U, runV (fuelP w n) d i none s = ⟨none, none, ⟨s.fuel - U, s.marks ++ List.replicate M (1, 0, n)⟩⟩ ∧ U ≤ s.fuel ∧ U ≤ 2 * M ∧ (0 < s.fuel → U < s.fuel → U + 1 ≤ 2 * M ∧ 2 ^ (32 - i) - 1 ≤ M) := by
  intro d
  induction d with
  | zero => intro i h1 h2; omega
  | succ d ih =>
    intro i h1 h2 s
    have hg : (fuelP w n).getD i [] = fuelF w i n := by rw [List.getD_eq_getElem?_getD, fuelP_at n h1]; rfl
    simp only [runV, hg]
    by_cases hf : s.fuel = 0
    · refine ⟨0, 0, ?_, by omega, by omega, by omega⟩
      simp [fuelF, actsV, hf, leaveV]
      cases s; simp at hf; subst hf; rfl
    have hm : (s.burn.mark 1 (0, n)) = ⟨s.fuel - 1, s.marks ++ [(1, 0, n)]⟩ := rfl
    by_cases hi : i + 1 < 32
    · obtain ⟨M, U, e, a, b, c⟩ := acts_calls (R := runV (fuelP w n) d) (j := i + 1) (G := 2 ^ (32 - (i + 1)) - 1) (x := (1, 0, n)) (fun s => ih (i + 1) hi (by omega) s) w none [] (s.burn.mark 1 (0, n))
      have hw' : actsV (runV (fuelP w n) d) (fuelF w i n) none [] s = actsV (runV (fuelP w n) d) (List.replicate w (callV (i + 1))) none [] (s.burn.mark 1 (0, n)) := by
        simp [fuelF, hi, actsV, hf]
      rw [hw', e]
      simp only [leaveV]
      rw [hm] at a c ⊢
      dsimp only at a c ⊢
      refine ⟨M + 1, U + 1, ?_, by omega, by omega, ?_⟩
      · rw [show s.fuel - 1 - U = s.fuel - (U + 1) by omega, List.append_assoc, Nat.add_comm M 1, ← List.replicate_append_replicate]
        rfl
      · intro _ hU
        have q := c (by omega) (by omega)
        have h3 : 2 * (2 ^ (32 - (i + 1)) - 1) ≤ w * (2 ^ (32 - (i + 1)) - 1) := Nat.mul_le_mul_right _ hw
        have h4 : 2 ^ (32 - i) = 2 * 2 ^ (32 - (i + 1)) := by rw [show 32 - i = (32 - (i + 1)) + 1 by omega, Nat.pow_succ, Nat.mul_comm]
        have h5 : 0 < 2 ^ (32 - (i + 1)) := Nat.pow_pos (by decide)
        omega
    · have hw' : actsV (runV (fuelP w n) d) (fuelF w i n) none [] s = ⟨none, none, [], s.burn.mark 1 (0, n)⟩ := by
        simp [fuelF, hi, actsV, hf]
      rw [hw']
      simp only [leaveV]
      rw [hm]
      refine ⟨1, 1, rfl, by omega, by omega, fun _ _ => ⟨by omega, ?_⟩⟩
      rw [show 32 - i = 1 by omega]
      decide
theorem fuelP_run {w : Nat} (hw : 2 ≤ w) (n : Int) : (runP (fuelP w n)).out = none ∧ ∃ M, 1000 ≤ M ∧ M ≤ 4096 ∧ (runP (fuelP w n)).st.marks = List.replicate M (1, 0, n) := by
  have hle := runV_le (fuelP w n) 32 0 none ⟨4096, []⟩
  unfold runP
  rw [fuelP_len]
  obtain ⟨M, U, e, a, b, c⟩ := run_fuel hw n 32 0 (by decide) (by decide) ⟨4096, []⟩
  rw [e] at hle ⊢
  refine ⟨rfl, M, ?_, ?_, by simp⟩
  · dsimp only at a c
    by_cases h : U < 4096
    · have := (c (by omega) h).2
      simp at this
      omega
    · omega
  · have := hle.2
    simp at this
    omega
theorem fuelP_ok {w : Nat} (hw : w ≤ 9) (n : Int) (h1 : -9223372036854775808 ≤ n) (h2 : n ≤ 9223372036854775807) : ProgOk (fuelP w n) := by
  refine ⟨by rw [fuelP_len]; omega, by rw [fuelP_len]; omega, fun i f hf => ?_⟩
  have hi : i < 32 := by
    have := (List.getElem?_eq_some_iff.1 hf).1
    rw [fuelP_len] at this
    exact this
  rw [fuelP_at n hi] at hf
  injection hf with hf
  subst hf
  rw [fuelP_len]
  refine ⟨by simp only [fuelF, List.length_cons, List.length_replicate]; split <;> omega, fun x hx => ?_⟩
  simp only [fuelF, List.mem_cons, List.mem_replicate] at hx
  rcases hx with rfl | ⟨hne, rfl⟩
  · exact ⟨⟨by simp, Or.inl rfl⟩, h1, h2⟩
  · have hi2 : i + 1 < 32 := by
      by_cases h : i + 1 < 32
      · exact h
      · rw [if_neg h] at hne; exact absurd rfl hne
    refine ⟨⟨by simp [callV], Or.inr (Or.inr (Or.inr (Or.inl ⟨Or.inl rfl, ?_, ?_⟩)))⟩, ?_, ?_⟩ <;> simp [callV] <;> omega
end Go.Proofs.YtifldnkcheobhaaDoor
