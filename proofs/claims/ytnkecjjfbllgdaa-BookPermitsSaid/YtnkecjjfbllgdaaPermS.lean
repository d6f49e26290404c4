/- Contracts of the laws on perm: SameInts, same. -/
import Derived.Test.YtnkecjjfbllgdaaPermK
namespace Go.Proofs.Ytnkecjjfbllgdaa
open Go.RowKit
set_option maxRecDepth 100000

theorem take_succ_eqI {xs ys : List Int} {k : Nat} (h : xs.take k = ys.take k) (hx : k < xs.length) (hy : k < ys.length) (hd : xs.getD k 0 = ys.getD k 0) : xs.take (k + 1) = ys.take (k + 1) := by
  rw [List.take_succ_eq_append_getElem hx, List.take_succ_eq_append_getElem hy, h]
  have e1 : xs.getD k 0 = xs[k] := by simp [List.getD_eq_getElem?_getD, hx]
  have e2 : ys.getD k 0 = ys[k] := by simp [List.getD_eq_getElem?_getD, hy]
  rw [← e1, ← e2, hd]
def SameInvI (w : World) (n : Nat) (xs ys : List Int) (iv : Value) (wr : World) : Prop :=
  ∃ k t : Nat, k ≤ n ∧ iv = .int .i64 (k : Int) ∧ xs.take k = ys.take k ∧ wr = w.drewN t
def SameEndI (w : World) (r : Bool) (e : Ending) (w' : World) : Prop := e = .returned (.bool r) ∧ ∃ t, w' = w.drewN t

set_option maxHeartbeats 800000 in
theorem sameInts_any (w : World) (B B' : Nat) (A A' : Option Addr) (n c m d : Nat) (xs ys : List Int) (r : Bool) (hr : decide (xs = ys) = r) (h : ArgI w B A n c xs) (h' : ArgI w B' A' m d ys) :
    Calls Try.prog 36 #[.slice A n c, .slice A' m d] w (SameEndI w r) := by
  have hxl := h.len
  have hyl := h'.len
  have hle := h.le
  have hcap := h.cap
  unfold maxLen at hcap
  have hle' := h'.le
  have hcap' := h'.cap
  unfold maxLen at hcap'
  by_cases hnm : n = m
  · subst hnm
    have HR := Lib.hid hr
    have HXL := Lib.hid hxl
    have HYL := Lib.hid hyl
    clear hr hxl hyl
    go_enter Try.func36, Try.ntmps36
    go_wp2
    go_loopw [13] (fun iv wr => SameInvI w n xs ys iv wr) (fun iv _ => n - (intOf iv).toNat)
    case atStart => exact ⟨0, 0, Nat.zero_le _, rfl, rfl, rfl⟩
    case round =>
      obtain ⟨k, t, hk, rfl, he, rfl⟩ := hrel
      rcases Nat.lt_or_ge k n with h1 | h1
      · obtain ⟨b1, o1, rfl, _, hc1⟩ := h.at_ (by omega)
        obtain ⟨b2, o2, rfl, _, hc2⟩ := h'.at_ (by omega)
        have hk1 := hc1 k h1
        have hk2 := hc2 k h1
        have hst := take_succ_eqI (k := k) he (by rw [HXL.out]; exact h1) (by rw [HYL.out]; exact h1)
        have hne : xs.getD k 0 ≠ ys.getD k 0 → false = r := by
          intro hne
          rw [← HR.out]
          refine (decide_eq_false ?_).symm
          intro e
          exact hne (by rw [e])
        clear hc1 hc2 h h'
        generalize xs.getD k 0 = x at hk1 hst hne
        generalize ys.getD k 0 = y at hk2 hst hne
        have HST := Lib.hid hst
        have HNE := Lib.hid hne
        have HE := Lib.hid he
        clear hst hne he
        by_cases hxy : x = y
        · subst hxy
          go_wp2
          go_quiet (fail)
          go_wp2
          go_roundw
          case rel => exact ⟨k + 1, _, by omega, by go_num, HST.out (by trivial), rfl⟩
          case measure => simp [intOf]; omega
        · have hb : (x == y) = false := beq_eq_false_iff_ne.2 hxy
          have hb2 : (x != y) = true := bne_iff_ne.2 hxy
          have HXY := Lib.hid hxy
          clear hxy
          go_wp2
          go_quiet (fail)
          go_wp2
          go_ret
          exact ⟨ret_bool (HNE.out HXY.out), _, by rw [World.drewN_drewN]⟩
      · obtain rfl : k = n := by omega
        have hfin : true = r := by
          rw [← HR.out]
          rw [List.take_of_length_le (by rw [HXL.out]; exact Nat.le_refl _), List.take_of_length_le (by rw [HYL.out]; exact Nat.le_refl _)] at he
          exact (decide_eq_true he).symm
        have HF := Lib.hid hfin
        clear hfin he h h'
        go_wp2
        go_ret
        exact ⟨ret_bool HF.out, t, rfl⟩
  · have hfin : false = r := by
      rw [← hr]
      refine (decide_eq_false ?_).symm
      intro e
      rw [e] at hxl
      omega
    have HF := Lib.hid hfin
    have hb : ((n : Int) == (m : Int)) = false := by rw [beq_eq_false_iff_ne]; omega
    have hb2 : ((n : Int) != (m : Int)) = true := by rw [bne_iff_ne]; omega
    clear hfin hr h h' hnm hxl hyl
    go_enter Try.func36, Try.ntmps36
    go_wp2
    go_ret
    exact ⟨ret_bool HF.out, 0, rfl⟩
theorem sameInts_b (w : World) (B B' : Nat) (A A' : Option Addr) (n c m d : Nat) (xs ys : List Int) (h : ArgI w B A n c xs) (h' : ArgI w B' A' m d ys) :
    Calls Try.prog 36 #[.slice A n c, .slice A' m d] w (ValEnd w (.bool (decide (xs = ys)))) :=
  (sameInts_any w B B' A A' n c m d xs ys _ rfl h h').mono fun _ _ ⟨he, t, hw⟩ => ⟨he, by rw [hw]; exact below_drewN (Below.refl _ _) t⟩

end Go.Proofs.Ytnkecjjfbllgdaa
