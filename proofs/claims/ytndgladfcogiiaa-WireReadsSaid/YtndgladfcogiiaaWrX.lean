/- Contract: used. -/
import Derived.Test.YtndgladfcogiiaaWrV
namespace Go.Proofs.Ytndgladfcogiiaa
open Go.RowKit
set_option maxRecDepth 100000
set_option linter.unusedVariables false
set_option maxHeartbeats 400000

/-- What used answers. -/
def UsE (w : World) (x : ClV) (B : Nat) (e : Ending) (w' : World) : Prop :=
  ∃ UA un uc, e = .returned (ClA (usedV x).o (usedV x).p UA un uc (usedV x).s) ∧ Arg w' B UA un uc (usedV x).ks ∧ Below w.heap.size w w'
theorem us_ret {w wf : World} {x : ClV} {B : Nat} {o : Nat} {p s : Int} {UA : Option Addr} {un uc : Nat} {ks : List Nat} (hx : usedV x = ⟨o, p, s, ks⟩) (tmps : Array Value) (hb : BlkL wf (w.heap.size + 1) (clB o p UA un uc s)) (t2 : tmps[2]? = some (.pointer (some ⟨w.heap.size + 1, 0, none⟩)))
    (ha : Arg wf B UA un uc ks) (ho : Below w.heap.size w wf) : bodyPost Try.prog Try.f48 (UsE w x B) Exit.ret { tmps := tmps, defers := [] } wf := by
  have c0 := hb.cell 0 _ rfl
  have c1 := hb.cell 1 _ rfl
  have c2 := hb.cell 2 _ rfl
  have c3 := hb.cell 3 _ rfl
  exact bodyPost_ret (v := ClA o p UA un uc s) (by simp [results, Try.results48, go_sem, t2, c0, c1, c2, c3]) rfl ⟨UA, un, uc, by rw [hx], by rw [hx]; exact ha, ho⟩
abbrev usW (w : World) (o p : Int) (A : Option Addr) (n c : Nat) (s : Int) (o' p' : Int) (A' : Option Addr) (n' c' : Nat) (s' : Int) : World := (clW w o p A n c s).alloc (.cells #[.int .u8 o', .int .i64 p', .slice A' n' c', .int .i64 s'] 71)
theorem usW_b (w : World) (o p : Int) (A : Option Addr) (n c : Nat) (s : Int) (o' p' : Int) (A' : Option Addr) (n' c' : Nat) (s' : Int) : Below w.heap.size w (usW w o p A n c s o' p' A' n' c' s') := (clBl w o p A n c s).alloc (by simp) _
theorem usW_k (w : World) (o p : Int) (A : Option Addr) (n c : Nat) (s : Int) (o' p' : Int) (A' : Option Addr) (n' c' : Nat) (s' : Int) : BlkL (usW w o p A n c s o' p' A' n' c' s') (w.heap.size + 1) (clB o' p' A' n' c' s') := by
  have := clK (clW w o p A n c s) o' p' A' n' c' s'
  rwa [show (clW w o p A n c s).heap.size = w.heap.size + 1 by simp] at this
theorem used_any (w : World) (B o : Nat) (p s : Int) (A : Option Addr) (n c : Nat) (ks : List Nat) (h : Arg w B A n c ks) (hB : B ≤ w.heap.size) : Calls Try.prog 48 #[ClA o p A n c s] w (UsE w ⟨o, p, s, ks⟩ B) := by
  have HA := Lib.hid h
  have HB := Lib.hid hB
  have K := (clK w o p A n c s).alloc (.cells #[.int .u8 0, .int .i64 0, .slice none 0 0, .int .i64 0] 71)
  have c0 := K.cell 0 _ rfl
  have c1 := K.cell 1 _ rfl
  have c2 := K.cell 2 _ rfl
  have c3 := K.cell 3 _ rfl
  have f3 := K.froz 3 (by simp)
  have l0 := K.lt
  clear K h hB
  by_cases h4 : 4 < o
  · have d1 : decide ((4 : Int) < (o : Int)) = true := by simp; omega
    have HX : Hid (usedV ⟨o, p, s, ks⟩ = ⟨o, 0, 0, []⟩) := Lib.hid (used_5 o p s ks h4)
    go_enter Try.func48, Try.ntmps48
    go_wp2
    exact us_ret HX.out _ (usW_k w o p A n c s o 0 none 0 0 0) rfl (Arg.nil _ _) (usW_b w o p A n c s o 0 none 0 0 0)
  · have d1 : decide ((4 : Int) < (o : Int)) = false := by simp; omega
    by_cases h2 : o = 2 ∨ o = 4
    · have HX : Hid (usedV ⟨o, p, s, ks⟩ = ⟨o, p, 0, ks⟩) := Lib.hid (used_2 o p s ks h2)
      rcases h2 with rfl | rfl
      · go_enter Try.func48, Try.ntmps48
        go_wp2_with fail
        exact us_ret (x := ⟨2, p, s, ks⟩) HX.out _ (usW_k w 2 p A n c 0 2 p A n c 0) rfl (HA.out.below ((usW_b w 2 p A n c 0 2 p A n c 0).mono HB.out)) (usW_b w 2 p A n c 0 2 p A n c 0)
      · go_enter Try.func48, Try.ntmps48
        go_wp2_with fail
        exact us_ret (x := ⟨4, p, s, ks⟩) HX.out _ (usW_k w 4 p A n c 0 4 p A n c 0) rfl (HA.out.below ((usW_b w 4 p A n c 0 4 p A n c 0).mono HB.out)) (usW_b w 4 p A n c 0 4 p A n c 0)
    · have HX : Hid (usedV ⟨o, p, s, ks⟩ = ⟨o, p, s, ks⟩) := Lib.hid (by unfold usedV; dsimp only; rw [if_neg h4, if_neg h2])
      have e2 : ((o : Int) == 2) = false := by simp; omega
      have e4 : ((o : Int) == 4) = false := by simp; omega
      go_enter Try.func48, Try.ntmps48
      go_wp2
      exact us_ret HX.out _ (usW_k w o p A n c s o p A n c s) rfl (HA.out.below ((usW_b w o p A n c s o p A n c s).mono HB.out)) (usW_b w o p A n c s o p A n c s)
end Go.Proofs.Ytndgladfcogiiaa
