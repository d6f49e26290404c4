/- Book: what a call makes of a cell, as mathematics. -/
import Derived.Test.YtnkecjjfbllgdaaPermA
import Derived.Test.YtnkecjjfbllgdaaGlft
import Derived.Test.YtnkecjjfbllgdaaRow
import Derived.Test.YtnkecjjfbllgdaaSpare
import Derived.Test.YtnkecjjfbllgdaaOff
import Derived.Test.YtnkecjjfbllgdaaIdent
namespace Go.Proofs.Ytnkecjjfbllgdaa
open Go.RowKit
set_option maxRecDepth 100000

structure PolM where
  kind : Nat
  T : Int
  Tau : Int
  perm : Int
structure CelM where
  tat : Nat
  held : List Int
structure RepM where
  e : Int
  g : Bool
  l : Int
  wt : Int
  s : Int
  now : Int
abbrev repV (r : RepM) : Value := .agg #[.int .i64 r.e, .bool r.g, .int .i64 r.l, .int .i64 r.wt, .int .i64 r.s, .int .i64 r.now]
abbrev polV (p : PolM) : Value := .agg #[.int .u8 (p.kind : Nat), .int .i64 p.T, .int .i64 p.Tau, .int .i64 p.perm]
def RepM.err (e : Int) : RepM := ⟨e, false, 0, 0, 0, 0⟩
def CelM.zero : CelM := ⟨0, []⟩
/-- A policy in form. -/
def PolM.ok (p : PolM) : Prop := (p.kind = 1 ∧ checkV p.T p.Tau = 0) ∨ (p.kind = 2 ∧ 1 ≤ p.perm ∧ p.perm ≤ 64)
/-- A cell in form under its policy. -/
structure CelM.ok (p : PolM) (c : CelM) : Prop where
  rate : p.kind = 1 → c.held = []
  sema : p.kind = 2 → c.tat = 0 ∧ semB p.perm c.held = true
  tick : c.tat ≤ 4611686018427387903
theorem CelM.zero_ok {p : PolM} (h : p.ok) : CelM.zero.ok p :=
  ⟨fun _ => rfl, fun hk => ⟨rfl, by rcases h with h | h; exact absurd (h.1.symm.trans hk) (by omega); exact semB_iff.2 ⟨h.2.1, h.2.2, by simp [CelM.zero]; omega, rfl⟩⟩, by simp [CelM.zero]⟩

abbrev OutM := RepM × CelM × Bool
def allowM (p : PolM) (c : CelM) (now n : Nat) : OutM :=
  (⟨0, grB p.T.toNat p.Tau.toNat c.tat now n, (leftV p.T.toNat p.Tau.toNat (tatV p.T.toNat p.Tau.toNat c.tat now n) now : Nat), (wtV p.T.toNat p.Tau.toNat c.tat now n : Nat), 0, (now : Nat)⟩,
   ⟨tatV p.T.toNat p.Tau.toNat c.tat now n, []⟩, grB p.T.toNat p.Tau.toNat c.tat now n && decide (0 < n))
def takeM (p : PolM) (c : CelM) (s : Int) : OutM :=
  if takeE p.perm c.held s = 0 then (⟨0, true, p.perm - ((c.held.length + 1 : Nat) : Int), 0, s, 0⟩, ⟨0, putV c.held s⟩, true) else (RepM.err (takeE p.perm c.held s), CelM.zero, false)
def giveM (p : PolM) (c : CelM) (n : Int) : OutM :=
  if hasV c.held n = true then (⟨0, true, p.perm - ((c.held.length - 1 : Nat) : Int), 0, 0, 0⟩, ⟨0, dropV c.held n⟩, true) else (RepM.err 11, CelM.zero, false)
def peekM (p : PolM) (c : CelM) (now : Nat) : OutM :=
  (if p.kind = 2 then ⟨0, false, p.perm - (c.held.length : Nat), 0, 0, 0⟩ else ⟨0, false, (leftV p.T.toNat p.Tau.toNat c.tat now : Nat), ((c.tat - now : Nat) : Int), 0, (now : Nat)⟩, c, false)
/-- A call on a cell: the reply, the cell behind it, whether it must be put. -/
def cellM (p : PolM) (c : CelM) (op : Nat) (n : Int) (now : Nat) (s : Int) : OutM :=
  if op = 1 then allowM p c now n.toNat else if op = 2 then takeM p c s else if op = 3 then giveM p c n else peekM p c now

/-- Which calls a policy's kind goes with. -/
def kindB (op kind : Nat) : Bool := if op = 1 then decide (kind = 1) else if op = 2 ∨ op = 3 then decide (kind = 2) else true

theorem dropV_len {xs : List Int} {n : Int} (ho : okList 0 xs = true) (h : hasV xs n = true) : (dropV xs n).length = xs.length - 1 := by
  have hp := hasV_place (n := n) ho
  rw [h] at hp
  have hlt : placeV xs n < xs.length := by
    by_cases hh : placeV xs n < xs.length
    · exact hh
    · rw [decide_eq_false hh] at hp; simp at hp
  rw [dropV_place ho h, List.length_append, List.length_take, List.length_drop]
  omega
theorem okList_filter {q : Int → Bool} : ∀ {xs : List Int} {last : Int}, okList last xs = true → okList last (xs.filter q) = true
  | [], _, h => h
  | x :: l, last, h => by
    obtain ⟨h1, h2, h3, h4⟩ := okList_cons.1 h
    rw [List.filter_cons]
    split
    · exact okList_cons.2 ⟨h1, h2, h3, okList_filter h4⟩
    · exact okList_filter (okList_weak (by omega) h4)
theorem cellM_ok {p : PolM} {c : CelM} {op now : Nat} {n s : Int} (hp : p.ok) (hc : c.ok p) (hk : kindB op p.kind = true) (hn : now ≤ 4611686018427387903) : (cellM p c op n now s).2.1.ok p := by
  unfold cellM
  split
  · rename_i h1
    have hk1 : p.kind = 1 := by unfold kindB at hk; rw [if_pos h1] at hk; exact of_decide_eq_true hk
    have hcv : checkV p.T p.Tau = 0 := by
      rcases hp with h | h
      · exact h.2
      · exact absurd (hk1.symm.trans h.1) (by omega)
    have := checkV_zero hcv
    exact ⟨fun _ => rfl, fun h2 => absurd (hk1.symm.trans h2) (by omega), tatV_le (by omega) hc.tick hn⟩
  · rename_i h1
    split
    · rename_i h2
      have hk1 : p.kind = 2 := by unfold kindB at hk; rw [if_neg h1, if_pos (.inl h2)] at hk; exact of_decide_eq_true hk
      unfold takeM
      split
      · rename_i ht
        exact ⟨fun h => absurd (hk1.symm.trans h) (by omega), fun _ => ⟨rfl, sem_put ht⟩, by simp⟩
      · exact CelM.zero_ok hp
    · rename_i h2
      split
      · rename_i h3
        have hk1 : p.kind = 2 := by unfold kindB at hk; rw [if_neg h1, if_pos (.inr h3)] at hk; exact of_decide_eq_true hk
        unfold giveM
        split
        · rename_i ht
          have hs := semB_iff.1 (hc.sema hk1).2
          refine ⟨fun h => absurd (hk1.symm.trans h) (by omega), fun _ => ⟨rfl, semB_iff.2 ⟨hs.1, hs.2.1, ?_, okList_filter hs.2.2.2⟩⟩, by simp⟩
          have := dropV_len hs.2.2.2 ht
          show ((dropV c.held n).length : Int) ≤ p.perm
          omega
        · exact CelM.zero_ok hp
      · exact hc
end Go.Proofs.Ytnkecjjfbllgdaa
