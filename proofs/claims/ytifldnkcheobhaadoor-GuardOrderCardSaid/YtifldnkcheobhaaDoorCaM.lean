/- The document's runs of small programs as mathematics: acts, what is remembered, how a run ends. -/
import Derived.Test.YtifldnkcheobhaaDoorBlk
namespace Go.Proofs.YtifldnkcheobhaaDoor
set_option maxRecDepth 100000
set_option linter.unusedVariables false

/-- Class and number of a panic. -/
abbrev PanV := Nat × Int
abbrev ActV := Nat × Int
abbrev MarkV := Nat × Nat × Int
structure CaS where
  fuel : Nat
  marks : List MarkV
def endV (k : Nat) (n : Int) : PanV := (k, if k ≤ 13 then n else 0)
def noneV : Option PanV → PanV
  | none => (0, 0)
  | some e => e
def CaS.mark (s : CaS) (k : Nat) (e : PanV) : CaS := { s with marks := s.marks ++ [(k, e.1, e.2)] }
def CaS.burn (s : CaS) : CaS := { s with fuel := s.fuel - 1 }
structure ActR where
  out : Option PanV
  by_ : Option PanV
  rem : List Nat
  st : CaS
/-- What a run gives: the panic that goes out; the panic because of which it was run, behind it; the state. -/
structure RunR where
  out : Option PanV
  by_ : Option PanV
  st : CaS
section
variable (R : Nat → Option PanV → CaS → RunR)
def actsV : List ActV → Option PanV → List Nat → CaS → ActR
  | [], b, rem, s => ⟨none, b, rem, s⟩
  | (k, n) :: r, b, rem, s =>
    if s.fuel = 0 then ⟨none, b, rem, s⟩
    else if k = 1 then actsV r b rem (s.burn.mark 1 (0, n))
    else if k = 2 then
      match (R n.toNat none s.burn).out with
      | some e => ⟨some e, b, rem, (R n.toNat none s.burn).st⟩
      | none => actsV r b rem (R n.toNat none s.burn).st
    else if k = 3 then actsV r b (n.toNat :: rem) s.burn
    else if k = 4 then ⟨none, b, rem, s.burn⟩
    else if k = 5 then actsV r none rem (s.burn.mark 5 (noneV b))
    else ⟨some (endV k n), b, rem, s.burn⟩
def leaveV : List Nat → Option PanV → CaS → Option PanV × CaS
  | [], c, s => (c, s)
  | i :: l, c, s => leaveV l ((R i c s).out.or (R i c s).by_) (R i c s).st
end
def runV (p : List (List ActV)) : Nat → Nat → Option PanV → CaS → RunR
  | 0, _, b, s => ⟨none, b, s⟩
  | d + 1, i, b, s =>
    let a := actsV (runV p d) (p.getD i []) b [] s
    let l := leaveV (runV p d) a.rem a.out a.st
    ⟨l.1, a.by_, l.2⟩
/-- May the act stand in the function i of m? -/
def ActOk (i m : Nat) (x : ActV) : Prop :=
  x.1 < 256 ∧ (x.1 = 1 ∨ x.1 = 4 ∨ x.1 = 5 ∨ (x.1 = 2 ∨ x.1 = 3) ∧ (i : Int) < x.2 ∧ x.2 < (m : Int) ∨ 11 ≤ x.1 ∧ x.1 ≤ 24)
instance (i m : Nat) (x : ActV) : Decidable (ActOk i m x) := by unfold ActOk; infer_instance
structure ProgOk (p : List (List ActV)) : Prop where
  len : p.length ≤ 32
  pos : 0 < p.length
  acts : ∀ i f, p[i]? = some f → f.length ≤ 64 ∧ ∀ x ∈ f, ActOk i p.length x ∧ -9223372036854775808 ≤ x.2 ∧ x.2 ≤ 9223372036854775807
/-- Fuel is only burnt; marks are made at most as fuel is burnt. -/
def CaS.le (s s' : CaS) : Prop := s'.fuel ≤ s.fuel ∧ s'.marks.length + s'.fuel ≤ s.marks.length + s.fuel
theorem CaS.le_refl (s : CaS) : s.le s := ⟨Nat.le_refl _, Nat.le_refl _⟩
theorem CaS.le_trans {a b c : CaS} (h : a.le b) (k : b.le c) : a.le c := ⟨Nat.le_trans k.1 h.1, Nat.le_trans k.2 h.2⟩
theorem CaS.burn_le (s : CaS) : s.le s.burn := by constructor <;> simp [CaS.burn] <;> omega
theorem CaS.burn_mark_le (s : CaS) (h : ¬ s.fuel = 0) (k : Nat) (e : PanV) : s.le (s.burn.mark k e) := by constructor <;> simp [CaS.burn, CaS.mark] <;> omega
theorem actsV_le {R : Nat → Option PanV → CaS → RunR} (hR : ∀ i b (s : CaS), s.le (R i b s).st) : ∀ (l : List ActV) b rem (s : CaS), s.le (actsV R l b rem s).st := by
  intro l
  induction l with
  | nil => intro b rem s; exact CaS.le_refl _
  | cons x r ih =>
    intro b rem s
    obtain ⟨k, n⟩ := x
    simp only [actsV]
    split
    · exact CaS.le_refl _
    rename_i hf
    split
    · exact CaS.le_trans (CaS.burn_mark_le s hf _ _) (ih _ _ _)
    split
    · split
      · exact CaS.le_trans (CaS.burn_le s) (hR _ _ _)
      · exact CaS.le_trans (CaS.le_trans (CaS.burn_le s) (hR _ _ _)) (ih _ _ _)
    split
    · exact CaS.le_trans (CaS.burn_le s) (ih _ _ _)
    split
    · exact CaS.burn_le s
    split
    · exact CaS.le_trans (CaS.burn_mark_le s hf _ _) (ih _ _ _)
    · exact CaS.burn_le s
theorem leaveV_le {R : Nat → Option PanV → CaS → RunR} (hR : ∀ i b (s : CaS), s.le (R i b s).st) : ∀ (l : List Nat) c (s : CaS), s.le (leaveV R l c s).2 := by
  intro l
  induction l with
  | nil => intro c s; exact CaS.le_refl _
  | cons i l ih => intro c s; simp only [leaveV]; exact CaS.le_trans (hR _ _ _) (ih _ _)
theorem runV_le (p : List (List ActV)) : ∀ d i b (s : CaS), s.le (runV p d i b s).st := by
  intro d
  induction d with
  | zero => intro i b s; exact CaS.le_refl _
  | succ d ih => intro i b s; simp only [runV]; exact CaS.le_trans (actsV_le ih _ _ _ _) (leaveV_le ih _ _ _)
/-- What is remembered are later functions. -/
theorem actsV_rem {R : Nat → Option PanV → CaS → RunR} {i m : Nat} : ∀ (l : List ActV) b rem s, (∀ x ∈ l, ActOk i m x) → (∀ y ∈ rem, i < y ∧ y < m) → ∀ y ∈ (actsV R l b rem s).rem, i < y ∧ y < m := by
  intro l
  induction l with
  | nil => intro b rem s _ hr; exact hr
  | cons x r ih =>
    intro b rem s hx hr
    obtain ⟨k, n⟩ := x
    have hx0 := hx (k, n) (by simp)
    have hx1 : ∀ x ∈ r, ActOk i m x := fun x h => hx x (by simp [h])
    simp only [actsV]
    split
    · exact hr
    split
    · exact ih _ _ _ hx1 hr
    split
    · split
      · exact hr
      · exact ih _ _ _ hx1 hr
    split
    · rename_i h3
      refine ih _ _ _ hx1 ?_
      intro y hy
      rcases List.mem_cons.1 hy with rfl | hy
      · subst h3
        obtain ⟨_, h⟩ := hx0
        simp at h
        omega
      · exact hr y hy
    split
    · exact hr
    split
    · exact ih _ _ _ hx1 hr
    · exact hr
end Go.Proofs.YtifldnkcheobhaaDoor
