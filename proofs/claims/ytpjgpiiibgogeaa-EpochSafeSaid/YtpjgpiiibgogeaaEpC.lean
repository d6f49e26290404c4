/- An Epochs: check, first, Start, Pending, Pinned. -/
import Derived.Test.YtpjgpiiibgogeaaEpB
import Derived.Laws.EntriesVeiled
namespace Go.Proofs.Ytpjgpiiibgogeaa
open Go.RowKit
set_option maxRecDepth 100000
set_option linter.unusedVariables false
theorem qn13 (w : World) : (binOp .neq 119 .nilFunc .nilFunc).run Try.prog w = .ok (.bool false) w := rfl
theorem qf13 (w : World) (K : Fn) (c1 c2 : Array Value) : (binOp .neq 119 (.func K c1 c2) .nilFunc).run Try.prog w = .ok (.bool true) w := rfl

theorem check_busy (w : World) (pin : Nat) (A : Option Addr) (n c : Nat) (K : Fn) (c1 c2 : Array Value) (op : Nat) :
    Calls Try.prog 54 #[.agg #[.func K c1 c2, UV pin, .slice A n c], .int .u8 (op : Int)] w fun e w' => e = .returned (.int .i64 9) ∧ Below w.heap.size w w' := by
  have HB := Lib.hid ((Below.refl w.heap.size w).alloc (Nat.le_refl _) (.cells #[.func K c1 c2, UV pin, .slice A n c] 123))
  have qn := qn13
  have qf := qf13
  go_enter Try.func54, Try.ntmps54
  go_wp2
  go_ret
  exact ⟨rfl, HB.out⟩

theorem check_u0 (w : World) (pin : Nat) (A : Option Addr) (n c : Nat) (hp : pin = 0) :
    Calls Try.prog 54 #[.agg #[.nilFunc, UV pin, .slice A n c], .int .u8 2] w fun e w' => e = .returned (.int .i64 7) ∧ Below w.heap.size w w' := by
  have HB := Lib.hid ((Below.refl w.heap.size w).alloc (Nat.le_refl _) (.cells #[.nilFunc, UV pin, .slice A n c] 123))
  subst hp
  have qn := qn13
  have qf := qf13
  go_enter Try.func54, Try.ntmps54
  go_wp2
  go_ret
  exact ⟨rfl, HB.out⟩

theorem check_u1 (w : World) (pin : Nat) (A : Option Addr) (n c : Nat) (hp : pin ≠ 0) :
    Calls Try.prog 54 #[.agg #[.nilFunc, UV pin, .slice A n c], .int .u8 2] w fun e w' => e = .returned (.int .i64 0) ∧ Below w.heap.size w w' := by
  have HB := Lib.hid ((Below.refl w.heap.size w).alloc (Nat.le_refl _) (.cells #[.nilFunc, UV pin, .slice A n c] 123))
  have h1 : ((pin : Int) == 0) = false := by simp; omega
  have h2 : ¬ (pin : Int) = 0 := by omega
  have qn := qn13
  have qf := qf13
  go_enter Try.func54, Try.ntmps54
  go_wp2
  go_ret
  exact ⟨rfl, HB.out⟩

theorem check_p0 (w : World) (pin : Nat) (A : Option Addr) (n c : Nat) (hp : pin = 0) :
    Calls Try.prog 54 #[.agg #[.nilFunc, UV pin, .slice A n c], .int .u8 1] w fun e w' => e = .returned (.int .i64 0) ∧ Below w.heap.size w w' := by
  have HB := Lib.hid ((Below.refl w.heap.size w).alloc (Nat.le_refl _) (.cells #[.nilFunc, UV pin, .slice A n c] 123))
  subst hp
  have qn := qn13
  have qf := qf13
  go_enter Try.func54, Try.ntmps54
  go_wp2
  go_ret
  exact ⟨rfl, HB.out⟩

theorem check_p1 (w : World) (pin : Nat) (A : Option Addr) (n c : Nat) (hp : pin ≠ 0) :
    Calls Try.prog 54 #[.agg #[.nilFunc, UV pin, .slice A n c], .int .u8 1] w fun e w' => e = .returned (.int .i64 8) ∧ Below w.heap.size w w' := by
  have HB := Lib.hid ((Below.refl w.heap.size w).alloc (Nat.le_refl _) (.cells #[.nilFunc, UV pin, .slice A n c] 123))
  have h1 : ((pin : Int) != 0) = true := by simp; omega
  have h2 : ¬ (pin : Int) = 0 := by omega
  have qn := qn13
  have qf := qf13
  go_enter Try.func54, Try.ntmps54
  go_wp2
  go_ret
  exact ⟨rfl, HB.out⟩

theorem check_r0 (w : World) (pin : Nat) (A : Option Addr) (n c : Nat) (hp : n < 4096) :
    Calls Try.prog 54 #[.agg #[.nilFunc, UV pin, .slice A n c], .int .u8 3] w fun e w' => e = .returned (.int .i64 0) ∧ Below w.heap.size w w' := by
  have HB := Lib.hid ((Below.refl w.heap.size w).alloc (Nat.le_refl _) (.cells #[.nilFunc, UV pin, .slice A n c] 123))
  have h2 : ¬ (4096 : Int) ≤ (n : Int) := by omega
  have qn := qn13
  have qf := qf13
  go_enter Try.func54, Try.ntmps54
  go_wp2
  go_ret
  exact ⟨rfl, HB.out⟩

theorem check_r1 (w : World) (pin : Nat) (A : Option Addr) (n c : Nat) (hp : 4096 ≤ n) :
    Calls Try.prog 54 #[.agg #[.nilFunc, UV pin, .slice A n c], .int .u8 3] w fun e w' => e = .returned (.int .i64 10) ∧ Below w.heap.size w w' := by
  have HB := Lib.hid ((Below.refl w.heap.size w).alloc (Nat.le_refl _) (.cells #[.nilFunc, UV pin, .slice A n c] 123))
  have h2 : (4096 : Int) ≤ (n : Int) := by omega
  have qn := qn13
  have qf := qf13
  go_enter Try.func54, Try.ntmps54
  go_wp2
  go_ret
  exact ⟨rfl, HB.out⟩

theorem check_a (w : World) (pin : Nat) (A : Option Addr) (n c : Nat) :
    Calls Try.prog 54 #[.agg #[.nilFunc, UV pin, .slice A n c], .int .u8 4] w fun e w' => e = .returned (.int .i64 0) ∧ Below w.heap.size w w' := by
  have HB := Lib.hid ((Below.refl w.heap.size w).alloc (Nat.le_refl _) (.cells #[.nilFunc, UV pin, .slice A n c] 123))
  have qn := qn13
  have qf := qf13
  go_enter Try.func54, Try.ntmps54
  go_wp2
  go_ret
  exact ⟨rfl, HB.out⟩

theorem check_c (w : World) (pin : Nat) (A : Option Addr) (n c : Nat) :
    Calls Try.prog 54 #[.agg #[.nilFunc, UV pin, .slice A n c], .int .u8 5] w fun e w' => e = .returned (.int .i64 0) ∧ Below w.heap.size w w' := by
  have HB := Lib.hid ((Below.refl w.heap.size w).alloc (Nat.le_refl _) (.cells #[.nilFunc, UV pin, .slice A n c] 123))
  have qn := qn13
  have qf := qf13
  go_enter Try.func54, Try.ntmps54
  go_wp2
  go_ret
  exact ⟨rfl, HB.out⟩

theorem check_any (w : World) (k : WkV) (A : Option Addr) (c op : Nat) (f : Value) (x i : Nat) (Q : Nat → Prop) (hf : ClV w Q (capsE x i k.nx) f) (h1 : 1 ≤ op) (h5 : op ≤ 5) :
    Calls Try.prog 54 #[.agg #[f, UV k.pin, .slice A k.gs.length c], .int .u8 (op : Int)] w fun e w' => e = .returned (.int .i64 (checkE k op : Nat)) ∧ Below w.heap.size w w' := by
  have hi := capsE_is x i k.nx
  unfold checkE
  rcases hf.isf with ⟨rfl, ho⟩ | ⟨⟨K, c1, c2, rfl⟩, ho⟩
  · have h9 : isEN k.nx = false := by rw [hi, ho]; rfl
    rw [h9]
    rcases (by omega : op = 1 ∨ op = 2 ∨ op = 3 ∨ op = 4 ∨ op = 5) with rfl | rfl | rfl | rfl | rfl
    · by_cases hp : k.pin = 0
      · simpa [hp] using check_p0 w k.pin A k.gs.length c hp
      · simpa [hp] using check_p1 w k.pin A k.gs.length c hp
    · by_cases hp : k.pin = 0
      · simpa [hp] using check_u0 w k.pin A k.gs.length c hp
      · simpa [hp] using check_u1 w k.pin A k.gs.length c hp
    · by_cases hp : 4096 ≤ k.gs.length
      · simpa [hp] using check_r1 w k.pin A k.gs.length c hp
      · simpa [hp] using check_r0 w k.pin A k.gs.length c (by omega)
    · simpa using check_a w k.pin A k.gs.length c
    · simpa using check_c w k.pin A k.gs.length c
  · have h9 : isEN k.nx = true := by
      rw [hi]
      cases h : capsE x i k.nx with
      | none => exact absurd h ho
      | some p => rfl
    rw [h9]
    simpa using check_busy w k.pin A k.gs.length c K c1 c2 op

theorem first_pin (w : World) (x i : Nat) (t : Int) (Q : Nat → Prop) (hQ : ∀ p, Q p → p < w.heap.size) : Calls Try.prog 55 #[PV x, IV i, .int .u8 1, .int .i64 t] w fun e' w' => ∃ f, e' = .returned f ∧ (ClV w' Q (capsE x i (.pin)) f ∧ ∃ (K : Nat) (cs : Array Value), f = .func (.func K) #[] cs) ∧ Below w.heap.size w w' := by
  have HM := Lib.hid (mk_pin w x i Q hQ)
  go_enter Try.func55, Try.ntmps55
  go_wp2_with fail
  with_reducible refine HM.out.mono ?_
  rintro e w1 ⟨f, rfl, ⟨hc, K, cs, rfl⟩, hb⟩
  have HC := Lib.hid hc
  clear hc
  go_wp2
  go_ret
  exact ⟨_, rfl, ⟨HC.out, _, _, rfl⟩, hb⟩

theorem first_unpin (w : World) (x i : Nat) (t : Int) (Q : Nat → Prop) (hQ : ∀ p, Q p → p < w.heap.size) : Calls Try.prog 55 #[PV x, IV i, .int .u8 2, .int .i64 t] w fun e' w' => ∃ f, e' = .returned f ∧ (ClV w' Q (capsE x i (.unpin)) f ∧ ∃ (K : Nat) (cs : Array Value), f = .func (.func K) #[] cs) ∧ Below w.heap.size w w' := by
  have HM := Lib.hid (mk_unpin w x i Q hQ)
  go_enter Try.func55, Try.ntmps55
  go_wp2_with fail
  with_reducible refine HM.out.mono ?_
  rintro e w1 ⟨f, rfl, ⟨hc, K, cs, rfl⟩, hb⟩
  have HC := Lib.hid hc
  clear hc
  go_wp2
  go_ret
  exact ⟨_, rfl, ⟨HC.out, _, _, rfl⟩, hb⟩

theorem first_retire (w : World) (x i : Nat) (t : Int) (Q : Nat → Prop) (hQ : ∀ p, Q p → p < w.heap.size) : Calls Try.prog 55 #[PV x, IV i, .int .u8 3, .int .i64 t] w fun e' w' => ∃ f, e' = .returned f ∧ (ClV w' Q (capsE x i (.retire t)) f ∧ ∃ (K : Nat) (cs : Array Value), f = .func (.func K) #[] cs) ∧ Below w.heap.size w w' := by
  have HM := Lib.hid (mk_retire w x i t Q hQ)
  go_enter Try.func55, Try.ntmps55
  go_wp2_with fail
  with_reducible refine HM.out.mono ?_
  rintro e w1 ⟨f, rfl, ⟨hc, K, cs, rfl⟩, hb⟩
  have HC := Lib.hid hc
  clear hc
  go_wp2
  go_ret
  exact ⟨_, rfl, ⟨HC.out, _, _, rfl⟩, hb⟩

theorem first_advance (w : World) (x i : Nat) (t : Int) (Q : Nat → Prop) (hQ : ∀ p, Q p → p < w.heap.size) : Calls Try.prog 55 #[PV x, IV i, .int .u8 4, .int .i64 t] w fun e' w' => ∃ f, e' = .returned f ∧ (ClV w' Q (capsE x i (.advance)) f ∧ ∃ (K : Nat) (cs : Array Value), f = .func (.func K) #[] cs) ∧ Below w.heap.size w w' := by
  have HM := Lib.hid (mk_advance w x i Q hQ)
  go_enter Try.func55, Try.ntmps55
  go_wp2_with fail
  with_reducible refine HM.out.mono ?_
  rintro e w1 ⟨f, rfl, ⟨hc, K, cs, rfl⟩, hb⟩
  have HC := Lib.hid hc
  clear hc
  go_wp2
  go_ret
  exact ⟨_, rfl, ⟨HC.out, _, _, rfl⟩, hb⟩

theorem first_collect (w : World) (x i : Nat) (t : Int) (Q : Nat → Prop) (hQ : ∀ p, Q p → p < w.heap.size) : Calls Try.prog 55 #[PV x, IV i, .int .u8 5, .int .i64 t] w fun e' w' => ∃ f, e' = .returned f ∧ (ClV w' Q (capsE x i (.collect)) f ∧ ∃ (K : Nat) (cs : Array Value), f = .func (.func K) #[] cs) ∧ Below w.heap.size w w' := by
  have HM := Lib.hid (mk_collect w x i Q hQ)
  go_enter Try.func55, Try.ntmps55
  go_wp2_with fail
  with_reducible refine HM.out.mono ?_
  rintro e w1 ⟨f, rfl, ⟨hc, K, cs, rfl⟩, hb⟩
  have HC := Lib.hid hc
  clear hc
  go_wp2
  go_ret
  exact ⟨_, rfl, ⟨HC.out, _, _, rfl⟩, hb⟩

theorem first_any (w : World) (x i op : Nat) (t : Int) (Q : Nat → Prop) (hQ : ∀ p, Q p → p < w.heap.size) (h1 : 1 ≤ op) (h5 : op ≤ 5) : Calls Try.prog 55 #[PV x, IV i, .int .u8 (op : Int), .int .i64 t] w fun e' w' => ∃ f, e' = .returned f ∧ (ClV w' Q (capsE x i (firstE op t)) f ∧ ∃ (K : Nat) (cs : Array Value), f = .func (.func K) #[] cs) ∧ Below w.heap.size w w' := by
  rcases (by omega : op = 1 ∨ op = 2 ∨ op = 3 ∨ op = 4 ∨ op = 5) with rfl | rfl | rfl | rfl | rfl
  · exact first_pin w x i t Q hQ
  · exact first_unpin w x i t Q hQ
  · exact first_retire w x i t Q hQ
  · exact first_advance w x i t Q hQ
  · exact first_collect w x i t Q hQ
section
variable {w : World} {B x b bw wb W : Nat} {X : List Nat} {k : Nat} {s : EpV} {fv : Nat → Value} {rA : Nat → Option Addr} {rc : Nat → Nat} {ring : List Value}
theorem estart_who (w : World) (p : Value) (who : Int) (op : Nat) (t : Int) (HW : Hid (Calls Try.prog 53 #[p, .int .i64 who] w fun e w' => e = .returned (.bool false) ∧ w = w')) :
    Calls Try.prog 16 #[p, .int .i64 who, .int .u8 (op : Int), .int .i64 t] w fun e w' => e = .returned (.int .i64 1) ∧ w = w' := by
  go_enter Try.func16, Try.ntmps16
  go_wp2_with fail
  with_reducible refine HW.out.mono ?_
  rintro e w1 ⟨rfl, hw⟩
  subst hw
  go_wp2
  go_ret
  exact ⟨rfl, rfl⟩
theorem estart_op (h : EpR w B x b bw wb W X k s fv rA rc ring) (who : Int) (hw : inB who W = true) (op : Nat) (t : Int) (ho : op < 1 ∨ 5 < op) :
    Calls Try.prog 16 #[PV x, .int .i64 who, .int .u8 (op : Int), .int .i64 t] w fun e w' => e = .returned (.int .i64 1) ∧ w = w' := by
  have HW := Lib.hid (isW_any h who)
  rw [hw] at HW
  clear h hw
  rcases ho with ho | ho
  · obtain rfl : op = 0 := by omega
    go_enter Try.func16, Try.ntmps16
    go_wp2_with fail
    with_reducible refine HW.out.mono ?_
    rintro e w1 ⟨rfl, hw⟩
    subst hw
    go_wp2
    go_ret
    exact ⟨rfl, rfl⟩
  · have h1 : ¬ (op : Int) < 1 := by omega
    have h2 : (5 : Int) < (op : Int) := by omega
    go_enter Try.func16, Try.ntmps16
    go_wp2_with fail
    with_reducible refine HW.out.mono ?_
    rintro e w1 ⟨rfl, hw⟩
    subst hw
    go_wp2
    go_ret
    exact ⟨rfl, rfl⟩
theorem estart_no (h : EpR w B x b bw wb W X k s fv rA rc ring) (i : Nat) (hi : i < W) (op : Nat) (t : Int) (h1 : 1 ≤ op) (h5 : op ≤ 5) (hc : checkE (s.wk i) op ≠ 0) :
    Calls Try.prog 16 #[PV x, IV i, .int .u8 (op : Int), .int .i64 t] w fun e w' => e = .returned (.int .i64 (checkE (s.wk i) op : Nat)) ∧ Below w.heap.size w w' := by
  have HW := Lib.hid (isW_any h (i : Int))
  rw [show inB (i : Int) W = true from inB_iff.mpr (by omega)] at HW
  have HC := Lib.hid (check_any w (s.wk i) (rA i) (rc i) op (fv i) x i _ (h.cl i hi) h1 h5)
  have c1 := h.c1
  have k0 := h.k0 hi
  have k1 := h.k1 hi
  have k2 := h.k2 hi
  have n1 : ¬ (op : Int) < 1 := by omega
  have n2 : ¬ (5 : Int) < (op : Int) := by omega
  have j0 : (0 : Int) ≤ (i : Int) := by omega
  have j1 : (i : Int) < (W : Int) := by omega
  have hc' : ¬ ((checkE (s.wk i) op : Nat) : Int) = 0 := by omega
  generalize checkE (s.wk i) op = cc at *
  clear h
  go_enter Try.func16, Try.ntmps16
  go_wp2_with fail
  with_reducible refine HW.out.mono ?_
  rintro e w1 ⟨rfl, hw⟩
  subst hw
  go_wp2_with fail
  with_reducible refine HC.out.mono ?_
  rintro e w1 ⟨rfl, hb⟩
  go_wp2
  go_ret
  exact ⟨rfl, hb⟩
set_option maxHeartbeats 1600000 in
theorem estart_ok (h : EpR w B x b bw wb W X k s fv rA rc ring) (i : Nat) (hi : i < W) (op : Nat) (t : Int) (h1 : 1 ≤ op) (h5 : op ≤ 5) (hc : checkE (s.wk i) op = 0) (y : EN) (hy : firstE op t = y) :
    Calls Try.prog 16 #[PV x, IV i, .int .u8 (op : Int), .int .i64 t] w fun e w' => e = .returned (.int .i64 0) ∧ (∃ fv', EpR w' B x b bw wb W X k (s.nx i y) fv' rA rc ring) ∧ Off [wb] w w' := by
  have HW := Lib.hid (isW_any h (i : Int))
  rw [show inB (i : Int) W = true from inB_iff.mpr (by omega)] at HW
  have hcc := check_any w (s.wk i) (rA i) (rc i) op (fv i) x i _ (h.cl i hi) h1 h5
  rw [hc] at hcc
  have HC := Lib.hid hcc
  have HF := Lib.hid (fun (w1 : World) (hb : Below w.heap.size w w1) => first_any w1.drew x i op t (QE x b bw wb W X rA) (fun p hp => Nat.lt_of_lt_of_le (h.qlt hp) hb.size) h1 h5)
  rw [hy] at HF
  have c1 := h.c1
  have k0 := h.k0 hi
  have k1 := h.k1 hi
  have k2 := h.k2 hi
  have lw := h.lts.2.2.2
  have lx := h.lts.1
  have hne := h.nx.2.2.1
  have n1 : ¬ (op : Int) < 1 := by omega
  have n2 : ¬ (5 : Int) < (op : Int) := by omega
  have j0 : (0 : Int) ≤ (i : Int) := by omega
  have j1 : (i : Int) < (W : Int) := by omega
  have H := Lib.hid h
  clear h hc hy hcc
  go_enter Try.func16, Try.ntmps16
  go_wp2_with fail
  with_reducible refine HW.out.mono ?_
  rintro e w1 ⟨rfl, hw⟩
  subst hw
  go_wp2_with fail
  with_reducible refine HC.out.mono ?_
  rintro e w1 ⟨rfl, hb⟩
  have HF1 := Lib.hid (HF.out w1 hb)
  have d1 := (H.out.below hb).c1
  have H1 := Lib.hid ((H.out.below hb).below (Below.refl _ _).drew)
  have HB1 := Lib.hid hb.drew
  have hs1 := hb.size
  clear c1 k0 k1 k2 HF HC HW hb H
  go_wp2_with fail
  go_region_held3 (fun W' => W'.cell? ⟨x, 1, none⟩ = some (.slice (some ⟨wb, 0, none⟩) W W)) (first | go_keep | (exact (World.cell?_setCell_other _ _ _ _ (by intro h; injection h with h1 h2; exact hne h1.symm)).trans (by assumption))) (((with_reducible refine HF1.out.mono ?_); rintro e w3 ⟨f, rfl, ⟨hcl, K, cs, rfl⟩, hb3⟩; have e3 := H1.out.below hb3; have d2 := e3.c1; have u0 := e3.k0 hi; have f0 := e3.fr (i := i * 3) (by omega); have l3 := e3.lts.2.2.2; have H3 := Lib.hid e3; have HC3 := Lib.hid hcl; have HB3 := Lib.hid hb3; clear e3 hcl hb3))
  all_goals
    have hz := H3.out.setNext hi HC3.out
    have hof := (Off.of_below (S := [wb]) (HB1.out.trans (HB3.out.mono hs1))).setCell (p := ⟨wb, i * 3, none⟩) (by simp) (.func (.func K) #[] cs)
    have HZ := Lib.hid (And.intro hz hof)
    clear hz hof u0 f0
    go_wp2
    go_ret
    exact ⟨rfl, ⟨_, HZ.out.1⟩, HZ.out.2⟩
theorem epend_any (h : EpR w B x b bw wb W X k s fv rA rc ring) (i : Nat) (hi : i < W) : Calls Try.prog 22 #[PV x, IV i] w fun e w' => e = .returned (.bool (isEN (s.wk i).nx)) ∧ w = w' := by
  have HW := Lib.hid (isW_any h (i : Int))
  rw [show inB (i : Int) W = true from inB_iff.mpr (by omega)] at HW
  have c1 := h.c1
  have k0 := h.k0 hi
  have j0 : (0 : Int) ≤ (i : Int) := by omega
  have j1 : (i : Int) < (W : Int) := by omega
  have hcl := h.cl i hi
  have hi2 := capsE_is x i (s.wk i).nx
  generalize fv i = f at *
  clear h
  rcases hcl.isf with ⟨rfl, ho⟩ | ⟨⟨K, c1', c2', rfl⟩, ho⟩
  · have h9 : isEN (s.wk i).nx = false := by rw [hi2, ho]; rfl
    rw [h9]
    clear hcl ho hi2 h9
    have qn := qn13
    have qf := qf13
    go_enter Try.func22, Try.ntmps22
    go_wp2_with fail
    with_reducible refine HW.out.mono ?_
    rintro e w1 ⟨rfl, hw⟩
    subst hw
    go_wp2
    go_ret
    exact ⟨rfl, rfl⟩
  · have h9 : isEN (s.wk i).nx = true := by
      rw [hi2]
      cases h : capsE x i (s.wk i).nx with
      | none => exact absurd h ho
      | some p => rfl
    rw [h9]
    clear hcl ho hi2 h9
    have qn := qn13
    have qf := qf13
    go_enter Try.func22, Try.ntmps22
    go_wp2_with fail
    with_reducible refine HW.out.mono ?_
    rintro e w1 ⟨rfl, hw⟩
    subst hw
    go_wp2
    go_ret
    exact ⟨rfl, rfl⟩
theorem epend_no (w : World) (p : Value) (who : Int) (HW : Hid (Calls Try.prog 53 #[p, .int .i64 who] w fun e w' => e = .returned (.bool false) ∧ w = w')) : Calls Try.prog 22 #[p, .int .i64 who] w fun e w' => e = .returned (.bool false) ∧ w = w' := by
  go_enter Try.func22, Try.ntmps22
  go_wp2_with fail
  with_reducible refine HW.out.mono ?_
  rintro e w1 ⟨rfl, hw⟩
  subst hw
  go_wp2
  go_ret
  exact ⟨rfl, rfl⟩
theorem epin_any (h : EpR w B x b bw wb W X k s fv rA rc ring) (i : Nat) (hi : i < W) (r : Bool) (hr : ((s.wk i).pin != 0) = r) : Calls Try.prog 24 #[PV x, IV i] w fun e w' => e = .returned (.bool r) ∧ w = w' := by
  have HW := Lib.hid (isW_any h (i : Int))
  rw [show inB (i : Int) W = true from inB_iff.mpr (by omega)] at HW
  have c1 := h.c1
  have k1 := h.k1 hi
  have j0 : (0 : Int) ≤ (i : Int) := by omega
  have j1 : (i : Int) < (W : Int) := by omega
  have e2 : (((s.wk i).pin : Int) != 0) = r := by
    rw [← hr]
    by_cases h0 : (s.wk i).pin = 0
    · rw [h0]; rfl
    · have e3 : ((s.wk i).pin != 0) = true := by simp [h0]
      have e4 : (((s.wk i).pin : Int) != 0) = true := by simp; omega
      rw [e3, e4]
  clear h hr
  generalize (s.wk i).pin = pn at *
  go_enter Try.func24, Try.ntmps24
  go_wp2_with fail
  with_reducible refine HW.out.mono ?_
  rintro e w1 ⟨rfl, hw⟩
  subst hw
  go_wp2
  go_ret
  exact ⟨rfl, rfl⟩
theorem epin_no (w : World) (p : Value) (who : Int) (HW : Hid (Calls Try.prog 53 #[p, .int .i64 who] w fun e w' => e = .returned (.bool false) ∧ w = w')) : Calls Try.prog 24 #[p, .int .i64 who] w fun e w' => e = .returned (.bool false) ∧ w = w' := by
  go_enter Try.func24, Try.ntmps24
  go_wp2_with fail
  with_reducible refine HW.out.mono ?_
  rintro e w1 ⟨rfl, hw⟩
  subst hw
  go_wp2
  go_ret
  exact ⟨rfl, rfl⟩
end
end Go.Proofs.Ytpjgpiiibgogeaa
