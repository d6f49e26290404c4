/- Epochs: which call is under way; what its step does to the pin. -/
import Derived.Test.YtpjgpiiibgogeaaEpY
import Derived.Test.YtpjgpiiibgogeaaPkEArg
namespace Go.Proofs.Ytpjgpiiibgogeaa
open Go.RowKit
set_option maxRecDepth 100000
set_option linter.unusedVariables false

theorem u64e (x : Int) : IntKind.u64.wrap x = x % 18446744073709551616 := by simp [IntKind.wrap, IntKind.bits, IntKind.signed]
def who4 (x : Int) : Nat := (x % 18446744073709551616 % 4).toNat
theorem who4_lt (x : Int) : who4 x < 4 := by unfold who4; omega
theorem who4_eq (x : Int) : (IntKind.u64.wrap x).tmod 4 = (who4 x : Int) := by
  rw [u64e, Int.tmod_eq_emod_of_nonneg (by omega)]
  unfold who4; omega
theorem eop5_eq (op : Nat) : ∃ o : Nat, 1 ≤ o ∧ o ≤ 5 ∧ 1 + (op : Int) % 5 = (o : Int) := ⟨1 + op % 5, by omega, by omega, by omega⟩
/-- Which call is under way. -/
def opY : EN → Nat
  | .none => 0
  | .pin => 1
  | .mark _ _ => 1
  | .confirm _ => 1
  | .unpin => 2
  | .retire _ => 3
  | .advance => 4
  | .look _ _ => 4
  | .move _ => 4
  | .collect => 5
theorem opY_first (op : Nat) (t : Int) (h1 : 1 ≤ op) (h5 : op ≤ 5) : opY (firstE op t) = op ∧ isEN (firstE op t) = true := by
  rcases (by omega : op = 1 ∨ op = 2 ∨ op = 3 ∨ op = 4 ∨ op = 5) with rfl | rfl | rfl | rfl | rfl <;> exact ⟨rfl, rfl⟩
theorem stepE_op {W : Nat} {s : EpV} {i : Nat} (h : InvE W s) (hi : i < W) (hp : isEN (s.wk i).nx = true) :
    (isEN (stepE W s i).y = true → opY (stepE W s i).y = opY (s.wk i).nx) ∧ ((stepE W s i).q.d = !isEN (stepE W s i).y) ∧
    (opY (s.wk i).nx = 2 → (stepE W s i).q.d = true ∧ ((stepE W s i).s.wk i).pin = 0) ∧
    (opY (s.wk i).nx = 1 → (stepE W s i).q.d = true → (((stepE W s i).s.wk i).pin : Int) = (stepE W s i).q.n + 1) ∧
    (opY (s.wk i).nx ≠ 2 → (opY (s.wk i).nx = 1 → (stepE W s i).q.d = false) → ((stepE W s i).s.wk i).pin = (s.wk i).pin) := by
  unfold stepE
  cases hn : (s.wk i).nx with
  | none => rw [hn] at hp; cases hp
  | pin => simp [isEN, opY]
  | mark old e =>
    have e : ((if s.P i = old then s.setW (i + 1) (e + 1) else s).wk i).pin = (s.wk i).pin := by split <;> rfl
    simp [isEN, opY, e]
  | confirm e =>
    simp only
    split
    · simp [isEN, opY, okEq, EpV.wk_setK]
    · simp [isEN, opY]
  | unpin => simp [isEN, opY, okEq, EpV.wk_setK]
  | retire t => simp [isEN, opY, okEq, EpV.wk_setK]
  | advance => simp [isEN, opY]
  | look j e =>
    simp only
    split
    · simp [isEN, opY]
    · split <;> simp [isEN, opY]
  | move e =>
    simp only
    split
    · have e1 : ((s.setW 0 (e + 1)).wk i).pin = (s.wk i).pin := rfl
      simp [isEN, opY, okEq, e1]
    · simp [isEN, opY, okEq]
  | collect => simp [isEN, opY, EpV.wk_setK]
theorem stepE_wk {W : Nat} {s : EpV} {i j : Nat} (hj : j ≠ i) : (stepE W s i).s.wk j = s.wk j := by
  unfold stepE
  cases hn : (s.wk i).nx <;> simp only
  all_goals first
    | rfl
    | (rw [EpV.wk_setK' _ _ _ hj]; done)
    | (rw [EpV.wk_setK' _ _ _ hj]; split <;> rfl)
    | (split <;> first | rfl | (rw [EpV.wk_setK' _ _ _ hj]) | (split <;> rfl))
theorem FrX.blkF {w w' : World} {B b n : Nat} {X : List Nat} {f : Nat → Value} (h : FrX B X w w') (hk : BlkF w b n f) (hb : b ∈ X) : BlkF w' b n f := by
  obtain ⟨S, h1, h2⟩ := h
  exact hk.off h1 (fun hm => (h2 b hm).2 hb)
end Go.Proofs.Ytpjgpiiibgogeaa
