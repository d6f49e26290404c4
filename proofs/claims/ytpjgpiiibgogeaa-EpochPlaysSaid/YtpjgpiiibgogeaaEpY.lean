/- The laws on epochs: SameInts; the first example. -/
import Derived.Test.YtpjgpiiibgogeaaEpX
import Derived.Test.YtpjgpiiibgogeaaInts
namespace Go.Proofs.Ytpjgpiiibgogeaa
open Go.RowKit
set_option maxRecDepth 100000
set_option linter.unusedVariables false

theorem take_succ_eqI {xs ys : List Int} {k : Nat} (h : xs.take k = ys.take k) (hx : k < xs.length) (hy : k < ys.length) (hd : xs.getD k 0 = ys.getD k 0) : xs.take (k + 1) = ys.take (k + 1) := by
  rw [List.take_succ_eq_append_getElem hx, List.take_succ_eq_append_getElem hy, h]
  have e1 : xs.getD k 0 = xs[k] := by simp [List.getD_eq_getElem?_getD, hx]
  have e2 : ys.getD k 0 = ys[k] := by simp [List.getD_eq_getElem?_getD, hy]
  rw [← e1, ← e2, hd]
def SameInvI (w : World) (n : Nat) (xs ys : List Int) (iv : Value) (wr : World) : Prop :=
  ∃ k t : Nat, k ≤ n ∧ iv = .int .i64 (k : Int) ∧ xs.take k = ys.take k ∧ wr = w.drewN t
def SameEndI (w : World) (r : Bool) (e : Ending) (w' : World) : Prop := e = .returned (.bool r) ∧ ∃ t, w' = w.drewN t

set_option maxHeartbeats 3200000 in
theorem sameInts_any (w : World) (B B' : Nat) (A A' : Option Addr) (n c m d : Nat) (xs ys : List Int) (r : Bool) (hr : decide (xs = ys) = r) (h : ArgI w B A n c xs) (h' : ArgI w B' A' m d ys) :
    Calls Try.prog 28 #[.slice A n c, .slice A' m d] w (SameEndI w r) := by
  have hxl := h.len
  have hyl := h'.len
  have hle := h.le
  have hcap := h.cap
  unfold maxLen at hcap
  have hle' := h'.le
  have hcap' := h'.cap
  unfold maxLen at hcap'
  by_cases hnm : n = m
  · subst hnm
    have HR := Lib.hid hr
    have HXL := Lib.hid hxl
    have HYL := Lib.hid hyl
    clear hr hxl hyl
    go_enter Try.func28, Try.ntmps28
    go_wp2
    go_loopw [13] (fun iv wr => SameInvI w n xs ys iv wr) (fun iv _ => n - (intOf iv).toNat)
    case atStart => exact ⟨0, 0, Nat.zero_le _, rfl, rfl, rfl⟩
    case round =>
      obtain ⟨k, t, hk, rfl, he, rfl⟩ := hrel
      rcases Nat.lt_or_ge k n with h1 | h1
      · obtain ⟨b1, o1, rfl, _, hc1⟩ := h.at_ (by omega)
        obtain ⟨b2, o2, rfl, _, hc2⟩ := h'.at_ (by omega)
        have hk1 := hc1 k h1
        have hk2 := hc2 k h1
        have hst := take_succ_eqI (k := k) he (by rw [HXL.out]; exact h1) (by rw [HYL.out]; exact h1)
        have hne : xs.getD k 0 ≠ ys.getD k 0 → false = r := by
          intro hne
          rw [← HR.out]
          refine (decide_eq_false ?_).symm
          intro e
          exact hne (by rw [e])
        clear hc1 hc2 h h'
        generalize xs.getD k 0 = x at hk1 hst hne
        generalize ys.getD k 0 = y at hk2 hst hne
        have HST := Lib.hid hst
        have HNE := Lib.hid hne
        have HE := Lib.hid he
        clear hst hne he
        by_cases hxy : x = y
        · subst hxy
          go_wp2
          go_quiet (fail)
          go_wp2
          go_roundw
          case rel => exact ⟨k + 1, _, by omega, by go_num, HST.out (by trivial), rfl⟩
          case measure => simp [intOf]; omega
        · have hb : (x == y) = false := beq_eq_false_iff_ne.2 hxy
          have hb2 : (x != y) = true := bne_iff_ne.2 hxy
          have HXY := Lib.hid hxy
          clear hxy
          go_wp2
          go_quiet (fail)
          go_wp2
          go_ret
          exact ⟨ret_bool (HNE.out HXY.out), _, by rw [World.drewN_drewN]⟩
      · obtain rfl : k = n := by omega
        have hfin : true = r := by
          rw [← HR.out]
          rw [List.take_of_length_le (by rw [HXL.out]; exact Nat.le_refl _), List.take_of_length_le (by rw [HYL.out]; exact Nat.le_refl _)] at he
          exact (decide_eq_true he).symm
        have HF := Lib.hid hfin
        clear hfin he h h'
        go_wp2
        go_ret
        exact ⟨ret_bool HF.out, t, rfl⟩
  · have hfin : false = r := by
      rw [← hr]
      refine (decide_eq_false ?_).symm
      intro e
      rw [e] at hxl
      omega
    have HF := Lib.hid hfin
    have hb : ((n : Int) == (m : Int)) = false := by rw [beq_eq_false_iff_ne]; omega
    have hb2 : ((n : Int) != (m : Int)) = true := by rw [bne_iff_ne]; omega
    clear hfin hr h h' hnm hxl hyl
    go_enter Try.func28, Try.ntmps28
    go_wp2
    go_ret
    exact ⟨ret_bool HF.out, 0, rfl⟩
theorem sameInts_b (w : World) (B B' : Nat) (A A' : Option Addr) (n c m d : Nat) (xs ys : List Int) (h : ArgI w B A n c xs) (h' : ArgI w B' A' m d ys) :
    Calls Try.prog 28 #[.slice A n c, .slice A' m d] w (ValEnd w (.bool (decide (xs = ys)))) :=
  (sameInts_any w B B' A A' n c m d xs ys _ rfl h h').mono fun _ _ ⟨he, t, hw⟩ => ⟨he, by rw [hw]; exact below_drewN (Below.refl _ _) t⟩

theorem thI_len (l : List Int) : (thI l).length = l.length := by simp [thI]
theorem argI_of {w : World} {B n c : Nat} {A : Option Addr} {l : List Int} (h : ArgC w B 1 A n c (thI l)) : ArgI w B A n c l := by
  have hl := h.len
  rw [thI_len] at hl
  refine ⟨by omega, h.le, h.cap, h.none_, fun hn => ?_⟩
  obtain ⟨b, off, e, hB, hc⟩ := h.at_ hn
  refine ⟨b, off, e, hB, fun j hj => (hc j (by omega)).trans ?_⟩
  have hjl : j < l.length := by omega
  rw [thI, List.getElem?_map, List.getElem?_eq_getElem hjl, List.getD_eq_getElem?_getD, List.getElem?_eq_getElem hjl]
  rfl
theorem InvE.p0 {W i : Nat} {s : EpV} (h : InvE W s) (hi : i < W) (hn : (s.wk i).nx = .none) : s.P i = (s.wk i).pin := by
  have := (h.form i hi).y
  rw [hn] at this
  exact this
set_option maxHeartbeats 6400000 in
theorem awake13_any (w : World) : Calls Try.prog 13 #[] w (ValEnd w (.bool true)) := by
  have HN : Hid (Calls Try.prog 14 #[.int .i64 2] w _) := Lib.hid (enewC w w (Below.refl _ _) 2 (by omega) (by omega))
  go_enter Try.func13, Try.ntmps13
  go_wp2_with fail
  with_reducible refine HN.out.mono ?_
  rintro e w1 ⟨x, rfl, c1, _⟩
  have H1 : Hid (Calls Try.prog 31 #[PV x, .int .i64 0, .int .u8 3, .int .i64 7] w1 _) := Lib.hid (erunC c1 (by omega) 0 (by omega) 3 7 (by omega) (by omega) rfl)
  clear c1 HN
  go_wp2_with fail
  with_reducible refine H1.out.mono ?_
  rintro e w2 ⟨A1, d1, q1, s1, k1, rfl, c2, hk1, n1, _, _⟩
  obtain ⟨rfl, g1⟩ := n1.o3 rfl
  have E1 : s1.E = 0 := (n1.E (by omega)).trans (initE_E 2)
  have W1 : s1.wk 1 = noWk := n1.wk 1 (by omega)
  have c2' := (c2.weak (X' := []) (by simp)).newX (.cells #[.bool true, .int .i64 0, .int .i64 0, .slice A1 0 d1] 37)
  have P1 : okP s1 s1.E 2 := fun q hq => by
    left
    rcases (by omega : q = 0 ∨ q = 1) with rfl | rfl
    · rw [n1.inv.p0 (by omega) n1.nx, n1.pin (by omega) (by omega)]; rfl
    · rw [n1.P 1 (by omega), initE_P]
  have H2 : Hid (Calls Try.prog 31 #[PV x, .int .i64 1, .int .u8 4, .int .i64 0] _ _) := Lib.hid (erunC c2' (by omega) 1 (by omega) 4 0 (by omega) (by omega) (by rw [W1]; rfl))
  have K1 := Lib.hid (BlkL.new w2 [.bool true, .int .i64 0, .int .i64 0, .slice A1 0 d1] 37)
  have N1 := Lib.hid (And.intro n1 (And.intro g1 (And.intro E1 (And.intro W1 P1))))
  have eq0 : ((initE 2).E : Int) = 0 := by rw [initE_E]; rfl
  clear c2 c2' n1 g1 E1 W1 P1 H1
  simp only [okEq, eq0, List.length_nil]
  go_wp2_with fail
  with_reducible refine H2.out.mono ?_
  rintro e w3 ⟨A2, d2, q2, s2, k2, rfl, c3, hk2, n2, _, f3⟩
  obtain ⟨n1, g1, E1, W1, P1⟩ := N1.out
  obtain ⟨rfl, E2⟩ : q2 = okEq (s1.E + 1 : Nat) ∧ s2.E = s1.E + 1 := by
    rcases n2.o4 rfl with ⟨_, a, b⟩ | ⟨hno, _⟩
    · exact ⟨a, b⟩
    · exact absurd P1 hno
  rw [E1] at E2
  have W2 : s2.wk 0 = s1.wk 0 := n2.wk 0 (by omega)
  have p21 : (s2.wk 1).pin = 0 := by rw [n2.pin (by omega) (by omega), W1]
  have i20 : (s2.wk 0).nx = .none := by rw [W2]; exact n1.nx
  have P2 : okP s2 s2.E 2 := fun q hq => by
    left
    rcases (by omega : q = 0 ∨ q = 1) with rfl | rfl
    · rw [n2.inv.p0 (by omega) i20, W2, n1.pin (by omega) (by omega)]; rfl
    · rw [n2.inv.p0 (by omega) n2.nx, p21]
  have c3' := (c3.weak (X' := [w2.heap.size]) (by simp)).newX (.cells #[.bool true, .int .i64 0, .int .i64 1, .slice A2 0 d2] 37)
  have hc3 : checkE (s2.wk 1) 4 = 0 := by simp [checkE, n2.nx, isEN]
  have H3 : Hid (Calls Try.prog 31 #[PV x, .int .i64 1, .int .u8 4, .int .i64 0] _ _) := Lib.hid (erunC c3' (by omega) 1 (by omega) 4 0 (by omega) (by omega) hc3)
  have K2 := Lib.hid (BlkL.new w3 [.bool true, .int .i64 0, .int .i64 1, .slice A2 0 d2] 37)
  have K1' := Lib.hid ((f3.blk K1.out (.inr (by simp))).alloc (.cells #[.bool true, .int .i64 0, .int .i64 1, .slice A2 0 d2] 37))
  have N2 := Lib.hid (And.intro n2 (And.intro E2 (And.intro W2 (And.intro p21 P2))))
  have eq1 : ((s1.E + 1 : Nat) : Int) = 1 := by rw [E1]; rfl
  clear c3 c3' n1 g1 E1 W1 P1 n2 E2 W2 p21 i20 P2 f3 H2 K1
  simp only [okEq, eq1, List.length_nil]
  go_wp2_with fail
  with_reducible refine H3.out.mono ?_
  rintro e w4 ⟨A3, d3, q3, s3, k3, rfl, c4, hk3, n3, _, f4⟩
  obtain ⟨n1, g1, E1, W1, P1⟩ := N1.out
  obtain ⟨n2, E2, W2, p21, P2⟩ := N2.out
  obtain ⟨rfl, E3⟩ : q3 = okEq (s2.E + 1 : Nat) ∧ s3.E = s2.E + 1 := by
    rcases n3.o4 rfl with ⟨_, a, b⟩ | ⟨hno, _⟩
    · exact ⟨a, b⟩
    · exact absurd P2 hno
  rw [E2] at E3
  have W3 : s3.wk 0 = s1.wk 0 := (n3.wk 0 (by omega)).trans W2
  have c4' := (c4.weak (X' := [w3.heap.size, w2.heap.size]) (by simp)).newX (.cells #[.bool true, .int .i64 0, .int .i64 2, .slice A3 0 d3] 37)
  have hc4 : checkE (s3.wk 0) 5 = 0 := by rw [W3]; simp [checkE, n1.nx, isEN]
  have H4 : Hid (Calls Try.prog 31 #[PV x, .int .i64 0, .int .u8 5, .int .i64 0] _ _) := Lib.hid (erunC c4' (by omega) 0 (by omega) 5 0 (by omega) (by omega) hc4)
  have K3 := Lib.hid (BlkL.new w4 [.bool true, .int .i64 0, .int .i64 2, .slice A3 0 d3] 37)
  have K2' := Lib.hid ((f4.blk K2.out (.inr (by simp))).alloc (.cells #[.bool true, .int .i64 0, .int .i64 2, .slice A3 0 d3] 37))
  have K1 := Lib.hid ((f4.blk K1'.out (.inr (by simp))).alloc (.cells #[.bool true, .int .i64 0, .int .i64 2, .slice A3 0 d3] 37))
  have hgs : (s3.wk 0).gs = [(7, 0)] := by rw [W3, g1, initE_E]; rfl
  have eq2 : ((s2.E + 1 : Nat) : Int) = 2 := by rw [E2]; rfl
  have N3 := Lib.hid (And.intro E3 hgs)
  clear c4 c4' n1 g1 E1 W1 P1 n2 E2 W2 p21 P2 n3 E3 W3 hgs f4 H3 K2 K1'
  simp only [okEq, eq2, List.length_nil]
  go_wp2_with fail
  with_reducible refine H4.out.mono ?_
  rintro e w5 ⟨A4, d4, q4, s4, k4, rfl, c5, hk4, n4, o5, f5⟩
  obtain ⟨E3, hgs⟩ := N3.out
  have hq4 : q4 = ⟨true, 0, 1, [7]⟩ := (n4.o5 rfl).1.trans (by rw [hgs, E3]; rfl)
  subst hq4
  have o5' : OwnC w5 _ TI 1 A4 1 d4 (thI [7]) := o5
  have k1 := f5.blk K1.out (.inr (by simp))
  have k2 := f5.blk K2'.out (.inr (by simp))
  have k3 := f5.blk K3.out (.inr (by simp))
  have k4 := BlkL.new w5 [.bool true, .int .i64 0, .int .i64 1, .slice A4 1 d4] 37
  have v1 := k1.cell 2 _ rfl
  have v2 := k2.cell 2 _ rfl
  have v3 := k3.cell 2 _ rfl
  have v4 := k4.cell 2 _ rfl
  have v5 := k4.cell 3 _ rfl
  have l1 := k1.lt
  have l2 := k2.lt
  have l3 := k3.lt
  have l4 := k4.lt
  have ha := argI_of o5'.arg
  have hb6 := (Below.refl w5.heap.size w5).alloc (Nat.le_refl _) (.cells #[.bool true, .int .i64 0, .int .i64 1, .slice A4 1 d4] 37)
  have hb7 := hb6.alloc (by simp) (.cells #[.int .i64 7] TI)
  have ha7 := ha.below hb7
  have hbl : ArgI ((w5.alloc (.cells #[.bool true, .int .i64 0, .int .i64 1, .slice A4 1 d4] 37)).alloc (.cells #[.int .i64 7] TI)) ((w5.alloc (.cells #[.bool true, .int .i64 0, .int .i64 1, .slice A4 1 d4] 37)).alloc (.cells #[.int .i64 7] TI)).heap.size (some ⟨w5.heap.size + 1, 0, none⟩) 1 1 [7] := by
    refine ⟨rfl, Nat.le_refl _, by unfold maxLen; omega, fun e => by simp at e, fun _ => ⟨_, 0, rfl, by simp, fun j hj => ?_⟩⟩
    obtain rfl : j = 0 := by omega
    have hz : (w5.alloc (.cells #[.bool true, .int .i64 0, .int .i64 1, .slice A4 1 d4] 37)).heap.size = w5.heap.size + 1 := by simp
    rw [← hz]
    exact (BlkL.new (w5.alloc (.cells #[.bool true, .int .i64 0, .int .i64 1, .slice A4 1 d4] 37)) [.int .i64 7] TI).cell 0 _ rfl
  have HSI := Lib.hid (sameInts_b _ _ _ A4 _ 1 d4 1 1 [7] [7] ha7 hbl)
  have HB := Lib.hid ((c5.bel.trans (hb6.mono c5.bel.size)).trans (show Below w.heap.size _ ((w5.alloc (.cells #[.bool true, .int .i64 0, .int .i64 1, .slice A4 1 d4] 37)).alloc (.cells #[.int .i64 7] TI)) from (Below.refl _ _).alloc (by have := c5.bel.size; simp; omega) _))
  clear c5 n4 o5 o5' f5 H4 k1 k2 k3 k4 K1 K2' K3 ha ha7 hb6 hb7 hbl N1 N2 N3 eq0 eq1 eq2
  simp only [List.length_cons, List.length_nil]
  go_wp2_with fail
  with_reducible refine HSI.out.mono ?_
  rintro e w7 ⟨rfl, hb7⟩
  go_wp2
  go_ret
  exact ⟨by rfl, HB.out.trans (hb7.mono (by have := HB.out.size; omega))⟩
end Go.Proofs.Ytpjgpiiibgogeaa
