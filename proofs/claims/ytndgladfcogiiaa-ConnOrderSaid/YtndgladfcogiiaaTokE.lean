/- Contracts: DocEncode; Same. -/
import Derived.Test.YtndgladfcogiiaaTokD
namespace Go.Proofs.Ytndgladfcogiiaa
open Go.RowKit
set_option maxRecDepth 100000
set_option linter.unusedVariables false

theorem docEncode_bad (w : World) (p s : Int) (A : Option Addr) (n c : Nat) (hbad : Hid (((decide (0 ≤ p) && decide (p < 32)) && (decide (1 ≤ s) && decide (s ≤ 4611686018427387903))) = false)) :
    Calls Try.prog 22 #[TokA p s A n c] w (ValEnd w (.tuple #[.slice none 0 0, .int .i64 1])) := by
  by_cases h1 : p < 0
  · clear hbad
    go_enter Try.func22, Try.ntmps22
    go_wp2
    go_ret2
    exact ⟨rfl, (Below.refl _ _).alloc (Nat.le_refl _) _⟩
  · by_cases h2 : 32 ≤ p
    · clear hbad
      have h1' : decide (p < 0) = false := by simp; omega
      go_enter Try.func22, Try.ntmps22
      go_wp2
      go_ret2
      exact ⟨rfl, (Below.refl _ _).alloc (Nat.le_refl _) _⟩
    · have h1' : decide (p < 0) = false := decide_eq_false h1
      have h2' : decide (32 ≤ p) = false := by simp; omega
      by_cases h3 : s < 1
      · clear hbad
        go_enter Try.func22, Try.ntmps22
        go_wp2
        go_ret2
        exact ⟨rfl, (Below.refl _ _).alloc (Nat.le_refl _) _⟩
      · have h3' : decide (s < 1) = false := by simp; omega
        have h4 : decide (4611686018427387903 < s) = true := by
          have hb := hbad.out
          simp at hb ⊢
          have := hb (by omega) (by omega) (by omega)
          omega
        clear hbad
        go_enter Try.func22, Try.ntmps22
        go_wp2
        go_ret2
        exact ⟨rfl, (Below.refl _ _).alloc (Nat.le_refl _) _⟩

theorem docEncode_long (w : World) (p s : Nat) (A : Option Addr) (n c : Nat) (hp : p < 32) (hs1 : 1 ≤ s) (hs2 : s ≤ 4611686018427387903) (hn : 255 < n) :
    Calls Try.prog 22 #[TokA p s A n c] w (ValEnd w (.tuple #[.slice none 0 0, .int .i64 2])) := by
  have h1' : decide ((p : Int) < 0) = false := decide_eq_false (by omega)
  have h2' : decide (32 ≤ (p : Int)) = false := by simp; omega
  have h3' : decide ((s : Int) < 1) = false := by simp; omega
  have h4' : decide (4611686018427387903 < (s : Int)) = false := by simp; omega
  go_enter Try.func22, Try.ntmps22
  go_wp2
  go_ret2
  exact ⟨rfl, (Below.refl _ _).alloc (Nat.le_refl _) _⟩

set_option maxHeartbeats 800000 in
theorem docEncode_good (w : World) (B : Nat) (p s : Nat) (A : Option Addr) (n c : Nat) (zs : List Nat) (h : Arg w B A n c zs) (hB : B ≤ w.heap.size) (hp : p < 32) (hs1 : 1 ≤ s) (hs2 : s ≤ 4611686018427387903) (hn : n ≤ 255) :
    Calls Try.prog 22 #[TokA p s A n c] w (NewB w (tokV p zs s) (n + 16)) := by
  have h1' : decide ((p : Int) < 0) = false := decide_eq_false (by omega)
  have h2' : decide (32 ≤ (p : Int)) = false := by simp; omega
  have h3' : decide ((s : Int) < 1) = false := by simp; omega
  have h4' : decide (4611686018427387903 < (s : Int)) = false := by simp; omega
  have B0 := Lib.hid ((Below.refl w.heap.size w).alloc (Nat.le_refl _) (.cells (tokB p s A n c).toArray 24))
  have HA0 := Lib.hid ((h.more hB).below ((Below.refl w.heap.size w).alloc (Nat.le_refl _) (.cells (tokB p s A n c).toArray 24)))
  clear h
  go_enter Try.func22, Try.ntmps22
  go_wp2_with fail
  with_reducible refine (encode7_any _ w.heap.size p s A n c zs HA0.out (by simp) hp hs1 hs2 hn).mono ?_
  rintro e w1 ⟨A1, d1, rfl, ho, hb⟩
  have HO := Lib.hid (ho.mono (B' := w.heap.size) (by simp))
  have HB := Lib.hid (B0.out.trans (hb.mono (by simp)))
  clear ho hb
  go_wp2
  go_ret2
  exact ⟨A1, d1, rfl, HO.out, HB.out⟩

set_option maxHeartbeats 800000 in
theorem same7_any (w : World) (B B' : Nat) (A A' : Option Addr) (n c m d : Nat) (xs ys : List Nat) (p p' s s' : Int) (r : Bool) (hr : Hid ((decide (p = p') && (decide (xs = ys) && decide (s = s'))) = r)) (h : Arg w B A n c xs) (h' : Arg w B' A' m d ys) (hB : B ≤ w.heap.size) (hB' : B' ≤ w.heap.size) :
    Calls Try.prog 26 #[TokA p s A n c, TokA p' s' A' m d] w (ValEnd w (.bool r)) := by
  have b2 := ((Below.refl w.heap.size w).alloc (Nat.le_refl _) (.cells (tokB p s A n c).toArray 24)).alloc (by simp) (.cells (tokB p' s' A' m d).toArray 24)
  have HA := Lib.hid ((h.more hB).below b2)
  have HA' := Lib.hid ((h'.more hB').below b2)
  have B2 := Lib.hid b2
  clear h h' b2
  by_cases hp : p = p'
  · subst hp
    have hpp : (p == p) = true := by simp
    by_cases hxy : xs = ys
    · have hrr : decide (s = s') = r := by rw [← hr.out]; simp [hxy]
      have HXY := Lib.hid (decide_eq_true hxy)
      have hss : (s == s') = r := by rw [← hrr]; rfl
      have HR := Lib.hid hss
      clear hr hrr hss hxy
      go_enter Try.func26, Try.ntmps26
      go_wp2_with fail
      with_reducible refine (same_any _ w.heap.size w.heap.size A A' n c m d xs ys true HXY.out HA.out HA'.out).mono ?_
      rintro e w1 ⟨rfl, t, rfl⟩
      have hss := HR.out
      go_wp2
      go_ret
      exact ⟨rfl, below_drewN B2.out t⟩
    · obtain rfl : r = false := by rw [← hr.out]; simp [hxy]
      have HXY := Lib.hid (decide_eq_false hxy)
      clear hr hxy
      go_enter Try.func26, Try.ntmps26
      go_wp2_with fail
      with_reducible refine (same_any _ w.heap.size w.heap.size A A' n c m d xs ys false HXY.out HA.out HA'.out).mono ?_
      rintro e w1 ⟨rfl, t, rfl⟩
      go_wp2
      go_ret
      exact ⟨rfl, below_drewN B2.out t⟩
  · obtain rfl : r = false := by rw [← hr.out]; simp [hp]
    have hpp : (p == p') = false := by simpa using hp
    clear hr hp
    go_enter Try.func26, Try.ntmps26
    go_wp2
    go_ret
    exact ⟨rfl, B2.out⟩
end Go.Proofs.Ytndgladfcogiiaa
