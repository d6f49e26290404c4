/- Contract: Same of the document. -/
import Derived.Test.YtndgladfcogiiaaWrN
namespace Go.Proofs.Ytndgladfcogiiaa
open Go.RowKit
set_option maxRecDepth 100000
set_option linter.unusedVariables false

/-- Are two calls alike? -/
def eqC (x y : ClV) : Bool := decide (x.o = y.o) && (decide (x.p = y.p) && (decide (x.ks = y.ks) && decide (x.s = y.s)))
theorem eqC_iff (x y : ClV) : eqC x y = true ↔ x = y := by
  cases x; cases y; simp [eqC]
  intros; exact And.comm
set_option maxHeartbeats 800000 in
theorem same21_any (w : World) (B B' : Nat) (A A' : Option Addr) (n c m d : Nat) (x y : ClV) (r : Bool) (hr : eqC x y = r) (h : Arg w B A n c x.ks) (h' : Arg w B' A' m d y.ks) (hB : B ≤ w.heap.size) (hB' : B' ≤ w.heap.size) :
    Calls Try.prog 47 #[ClA x.o x.p A n c x.s, ClA y.o y.p A' m d y.s] w (ValEnd w (.bool r)) := by
  obtain ⟨o, p, s, xs⟩ := x
  obtain ⟨o', p', s', ys⟩ := y
  dsimp only at *
  unfold eqC at hr
  dsimp only at hr
  have b2 := ((Below.refl w.heap.size w).alloc (Nat.le_refl _) (.cells #[.int .u8 (o : Int), .int .i64 p, .slice A n c, .int .i64 s] 71)).alloc (by simp) (.cells #[.int .u8 (o' : Int), .int .i64 p', .slice A' m d, .int .i64 s'] 71)
  have HA := Lib.hid ((h.more hB).below b2)
  have HA' := Lib.hid ((h'.more hB').below b2)
  have B2 := Lib.hid b2
  have k1 := (clK w o p A n c s).alloc (.cells #[.int .u8 (o' : Int), .int .i64 p', .slice A' m d, .int .i64 s'] 71)
  have k2 := clK (clW w o p A n c s) o' p' A' m d s'
  rw [show (clW w o p A n c s).heap.size = w.heap.size + 1 by simp] at k2
  have a0 := k1.cell 0 _ rfl
  have a1 := k1.cell 1 _ rfl
  have a2 := k1.cell 2 _ rfl
  have a3 := k1.cell 3 _ rfl
  have c0 := k2.cell 0 _ rfl
  have c1 := k2.cell 1 _ rfl
  have c2 := k2.cell 2 _ rfl
  have c3 := k2.cell 3 _ rfl
  have K1 := Lib.hid k1
  have K2 := Lib.hid k2
  clear h h' b2 k1 k2
  by_cases ho : o = o'
  · subst ho
    have hoo : ((o : Int) == (o : Int)) = true := by simp
    by_cases hp : p = p'
    · subst hp
      have hpp : (p == p) = true := by simp
      by_cases hxy : xs = ys
      · have hrr : decide (s = s') = r := by rw [← hr]; simp [hxy]
        have HXY := Lib.hid (decide_eq_true hxy)
        have hss : (s == s') = r := by rw [← hrr]; rfl
        have HR := Lib.hid hss
        clear hr hrr hss hxy
        go_enter Try.func47, Try.ntmps47
        go_wp2_with fail
        with_reducible refine (same_any _ w.heap.size w.heap.size A A' n c m d xs ys true HXY.out HA.out HA'.out).mono ?_
        rintro e w1 ⟨rfl, t, rfl⟩
        have j1 := (K1.out.drewN t).cell 3 _ rfl
        have j2 := (K2.out.drewN t).cell 3 _ rfl
        have hss := HR.out
        go_wp2
        go_ret
        exact ⟨rfl, below_drewN B2.out t⟩
      · obtain rfl : r = false := by rw [← hr]; simp [hxy]
        have HXY := Lib.hid (decide_eq_false hxy)
        clear hr hxy
        go_enter Try.func47, Try.ntmps47
        go_wp2_with fail
        with_reducible refine (same_any _ w.heap.size w.heap.size A A' n c m d xs ys false HXY.out HA.out HA'.out).mono ?_
        rintro e w1 ⟨rfl, t, rfl⟩
        go_wp2
        go_ret
        exact ⟨rfl, below_drewN B2.out t⟩
    · obtain rfl : r = false := by rw [← hr]; simp [hp]
      have hpp : (p == p') = false := by simpa using hp
      clear hr hp
      go_enter Try.func47, Try.ntmps47
      go_wp2
      go_ret
      exact ⟨rfl, B2.out⟩
  · obtain rfl : r = false := by rw [← hr]; simp [ho]
    have hpp : ((o : Int) == (o' : Int)) = false := by simp; omega
    clear hr ho
    go_enter Try.func47, Try.ntmps47
    go_wp2
    go_ret
    exact ⟨rfl, B2.out⟩
end Go.Proofs.Ytndgladfcogiiaa
