/- Contract: Compare of the document's numbers. -/
import Derived.Test.YtafboimlchjnaaaDoorWord
namespace Go.Proofs.YtafboimlchjnaaaDoor
open Go.RowKit
set_option maxRecDepth 100000

/-- -1, 0 or 1. -/
def cmpV (N M : Nat) : Int := if N < M then -1 else if M < N then 1 else 0
theorem cmpV_lt {N M : Nat} (h : N < M) : cmpV N M = -1 := by unfold cmpV; rw [if_pos h]
theorem cmpV_gt {N M : Nat} (h : M < N) : cmpV N M = 1 := by unfold cmpV; rw [if_neg (by omega), if_pos h]
theorem cmpV_eq {N M : Nat} (h : N = M) : cmpV N M = 0 := by unfold cmpV; rw [if_neg (by omega), if_neg (by omega)]

theorem below_drewN {B : Nat} {a w : World} (h : Below B a w) (n : Nat) : Below B a (w.drewN n) := ⟨h.os, h.tape, h.output, h.size, h.block⟩

/-- The upper digits alike, a lesser digit below them: a lesser number. -/
theorem lt_of_top {xs ys : List Nat} {k N M : Nat} (hx : Mth.Lo xs N) (hy : Mth.Lo ys M) (hk : 0 < k) (h1 : k ≤ xs.length) (h2 : k ≤ ys.length)
    (he : Mth.val (xs.drop k) = Mth.val (ys.drop k)) (hd : xs.getD (k - 1) 0 < ys.getD (k - 1) 0) : N < M := by
  have ex := drop_pred xs k hk h1
  have ey := drop_pred ys k hk h2
  have sx : Mth.val xs = Mth.val (xs.take (k - 1)) + 4294967296 ^ (k - 1) * Mth.val (xs.drop (k - 1)) := by
    have := Mth.val_append (xs.take (k - 1)) (xs.drop (k - 1))
    rw [List.take_append_drop, List.length_take, Nat.min_eq_left (by omega)] at this
    exact this
  have sy : Mth.val ys = Mth.val (ys.take (k - 1)) + 4294967296 ^ (k - 1) * Mth.val (ys.drop (k - 1)) := by
    have := Mth.val_append (ys.take (k - 1)) (ys.drop (k - 1))
    rw [List.take_append_drop, List.length_take, Nat.min_eq_left (by omega)] at this
    exact this
  have hlt := Mth.val_lt (l := xs.take (k - 1)) (fun d hd => hx.1 d (List.mem_of_mem_take hd))
  rw [List.length_take, Nat.min_eq_left (by omega)] at hlt
  rw [hx.2] at sx
  rw [hy.2] at sy
  have hm : 4294967296 ^ (k - 1) * (Mth.val (xs.drop (k - 1)) + 1) ≤ 4294967296 ^ (k - 1) * Mth.val (ys.drop (k - 1)) := Nat.mul_le_mul_left _ (by omega)
  rw [Nat.mul_add] at hm
  omega

def CompInv (w : World) (xs ys : List Nat) (n : Nat) (iv : Value) (wr : World) : Prop :=
  ∃ k t : Nat, k ≤ n ∧ iv = .int .i64 ((k : Int) - 1) ∧ Mth.val (xs.drop k) = Mth.val (ys.drop k) ∧ wr = w.drewN t

def CmpEnd (w : World) (N M : Nat) (e : Ending) (w' : World) : Prop := e = .returned (.int .i64 (cmpV N M)) ∧ ∃ t, w' = w.drewN t

set_option maxHeartbeats 1600000 in
theorem comp_any (w : World) (A B : Option Addr) (n m c d : Nat) (xs ys : List Nat) (N M : Nat) (hA : Num w A n c xs N) (hB : Num w B m d ys M) :
    Calls Tryd.prog 89 #[.slice A n c, .slice B m d] w (CmpEnd w N M) := by
  have hxl := hA.own.len
  have hyl := hB.own.len
  have hle := hA.own.le
  have hcap := hA.own.cap
  unfold maxLen at hcap
  have hle2 := hB.own.le
  have hcap2 := hB.own.cap
  unfold maxLen at hcap2
  rcases Nat.lt_trichotomy n m with hnm | hnm | hnm
  · have hlt := Mth.Dig.lt_of_len hA.dig hB.dig (by omega)
    have HE := Lib.hid (cmpV_lt hlt)
    clear hlt hA hB hxl hyl
    go_enter Tryd.func89, Tryd.ntmps89
    go_wp2
    go_ret
    exact ⟨ret_int HE.out.symm, 0, rfl⟩
  · subst hnm
    go_enter Tryd.func89, Tryd.ntmps89
    go_wp2
    go_loopw [5] (fun iv wr => CompInv w xs ys n iv wr) (fun iv _ => (intOf iv + 1).toNat)
    case atStart => exact ⟨n, 0, Nat.le_refl _, rfl, by rw [List.drop_of_length_le (by omega), List.drop_of_length_le (by omega)], rfl⟩
    case round =>
      obtain ⟨k, t, hk, rfl, he, rfl⟩ := hrel
      rcases Nat.eq_zero_or_pos k with hz | hpos
      · have heq : N = M := by
          subst hz
          rw [List.drop_zero, List.drop_zero, hA.dig.1.2, hB.dig.1.2] at he
          exact he
        have HE := Lib.hid (cmpV_eq heq)
        clear heq he hA hB hxl hyl
        subst hz
        go_wp2
        go_ret
        exact ⟨ret_int HE.out.symm, t, rfl⟩
      · have hlt1 := fun h => lt_of_top (k := k) hA.dig.1 hB.dig.1 hpos (by omega) (by omega) he h
        have hlt2 := fun h => lt_of_top (k := k) hB.dig.1 hA.dig.1 hpos (by omega) (by omega) he.symm h
        have hpx := drop_pred xs k hpos (by omega)
        have hpy := drop_pred ys k hpos (by omega)
        obtain ⟨g1, rfl, _, _, hc1⟩ := hA.own.at_ (k := k - 1) (by omega)
        obtain ⟨g2, rfl, _, _, hc2⟩ := hB.own.at_ (k := k - 1) (by omega)
        clear hA hB hxl hyl
        generalize xs.getD (k - 1) 0 = x at hlt1 hlt2 hpx hc1
        generalize ys.getD (k - 1) 0 = y at hlt1 hlt2 hpy hc2
        have HPX := Lib.hid hpx
        have HPY := Lib.hid hpy
        have HEQ := Lib.hid he
        clear hpx hpy he
        rcases Nat.lt_trichotomy x y with hxy | hxy | hxy
        · have HE := Lib.hid (cmpV_lt (hlt1 hxy))
          clear hlt1 hlt2
          have hd : decide ((x : Int) < (y : Int)) = true := by simp; omega
          go_wp2
          go_quiet (fail)
          go_wp2
          go_ret
          exact ⟨ret_int HE.out.symm, _, by rw [World.drewN_drewN]⟩
        · have hval : Mth.val (xs.drop (k - 1)) = Mth.val (ys.drop (k - 1)) := by rw [HPX.out, HPY.out, HEQ.out, hxy]
          have HV := Lib.hid hval
          clear hlt1 hlt2 hval HPX HPY
          subst hxy
          have hd : decide ((x : Int) < (x : Int)) = false := by simp
          go_wp2
          go_quiet (fail)
          go_wp2
          go_quiet (fail)
          go_wp2
          go_roundw
          case rel => exact ⟨k - 1, _, by omega, by go_num, HV.out, rfl⟩
          case measure => simp [intOf]; omega
        · have HE := Lib.hid (cmpV_gt (hlt2 hxy))
          clear hlt1 hlt2
          have hd : decide ((x : Int) < (y : Int)) = false := by simp; omega
          have hd2 : decide ((y : Int) < (x : Int)) = true := by simp; omega
          go_wp2
          go_quiet (fail)
          go_wp2
          go_quiet (fail)
          go_wp2
          go_ret
          exact ⟨ret_int HE.out.symm, _, by rw [World.drewN_drewN, World.drewN_drewN]⟩
  · have hlt := Mth.Dig.lt_of_len hB.dig hA.dig (by omega)
    have HE := Lib.hid (cmpV_gt hlt)
    clear hlt hA hB hxl hyl
    go_enter Tryd.func89, Tryd.ntmps89
    go_wp2
    go_ret
    exact ⟨ret_int HE.out.symm, 0, rfl⟩
end Go.Proofs.YtafboimlchjnaaaDoor
