/- Contract: Reply. -/
import Derived.Test.YtndgladfcogiiaaWrA
namespace Go.Proofs.Ytndgladfcogiiaa
open Go.RowKit
set_option maxRecDepth 100000
set_option linter.unusedVariables false
/-- Between the numbers. -/
def RpI (w : World) (r : RpV) (j : Nat) (pv : Value) (wr : World) : Prop :=
  ∃ XA c, pv = .slice XA (2 + 8 * j) c ∧ OwnB wr w.heap.size XA (2 + 8 * j) c (r.upto j) ∧ Below w.heap.size w wr
theorem rpI_zero {w wr : World} {r : RpV} {n : Nat} (hn : r.E = (n : Int)) (x : Nat) (hx : x = if r.G then 1 else 0) {g : Nat} (ho : OwnB wr w.heap.size (some ⟨g, 0, none⟩) 2 2 [n, x]) (hb : Below w.heap.size w wr) :
    RpI w r 0 (.slice (some ⟨g, 0, none⟩) 2 2) wr := by
  refine ⟨_, 2, rfl, ?_, hb⟩
  have e : r.upto 0 = [n, x] := by simp [RpV.upto, hn, hx]
  rw [e]; exact ho
theorem rpI_step {w w' : World} {r : RpV} {j c' : Nat} {XA' : Option Addr} {n : Int} (hj : [r.a, r.b, r.c, r.d][j]? = some n) (ho : OwnB w' w.heap.size XA' (2 + 8 * j + 8) c' (r.upto j ++ Tk.wordV n.toNat 8)) (hb : Below w.heap.size w w') :
    RpI w r (j + 1) (.slice XA' (2 + 8 * j + 8) c') w' := by
  refine ⟨XA', c', by rw [show 2 + 8 * (j + 1) = 2 + 8 * j + 8 by omega], ?_, hb⟩
  have e : r.upto (j + 1) = r.upto j ++ Tk.wordV n.toNat 8 := by
    unfold RpV.upto
    obtain ⟨hl, hg⟩ := List.getElem?_eq_some_iff.1 hj
    rw [List.take_succ_eq_append_getElem hl, hg]
    simp
  rw [e, show 2 + 8 * (j + 1) = 2 + 8 * j + 8 by omega]; exact ho
set_option maxHeartbeats 3200000 in
theorem reply_any (w : World) (r : RpV) : Calls Try.prog 50 #[r.val] w (RpE w r) := by
  have B0 : Below w.heap.size w (w.alloc (.cells #[.int .i64 r.E, .bool r.G, .int .i64 r.a, .int .i64 r.b, .int .i64 r.c, .int .i64 r.d] 82)) := (Below.refl _ _).alloc (Nat.le_refl _) _
  have K0 : BlkL (w.alloc (.cells #[.int .i64 r.E, .bool r.G, .int .i64 r.a, .int .i64 r.b, .int .i64 r.c, .int .i64 r.d] 82)) w.heap.size r.cells := BlkL.new w _ _
  have HB0 := Lib.hid B0
  have HK0 := Lib.hid K0
  have hlt : w.heap.size < (w.alloc (.cells #[.int .i64 r.E, .bool r.G, .int .i64 r.a, .int .i64 r.b, .int .i64 r.c, .int .i64 r.d] 82)).heap.size := K0.lt
  have c0 := K0.cell 0 _ rfl
  have c1 := K0.cell 1 _ rfl
  have c2 := K0.cell 2 _ rfl
  have c3 := K0.cell 3 _ rfl
  have c4 := K0.cell 4 _ rfl
  have c5 := K0.cell 5 _ rfl
  clear B0 K0
  obtain ⟨r0, hr0⟩ : ∃ r0, r = r0 := ⟨_, rfl⟩
  have HR0 := Lib.hid hr0
  rcases (by omega : r.E < 0 ∨ 16 < r.E ∨ (0 ≤ r.E ∧ r.E ≤ 16)) with h | h | h
  · have hok : r.ok = false := by unfold RpV.ok RpV.eB; rw [decide_eq_false (by omega : ¬ 0 ≤ r.E)]; simp
    have HK := Lib.hid hok
    have d0 : decide (r.E < 0) = true := decide_eq_true h
    clear hok hr0
    obtain ⟨E, G, a, b, c, d⟩ := r
    dsimp only at *
    go_enter Try.func50, Try.ntmps50
    go_wp2
    go_ret2
    exact rpE_bad HK.out HB0.out
  · have hok : r.ok = false := by unfold RpV.ok RpV.eB; rw [decide_eq_false (by omega : ¬ r.E ≤ 16)]; simp
    have HK := Lib.hid hok
    have d0 : decide (r.E < 0) = false := decide_eq_false (by omega)
    have d1 : decide (16 < r.E) = true := decide_eq_true h
    clear hok hr0
    obtain ⟨E, G, a, b, c, d⟩ := r
    dsimp only at *
    go_enter Try.func50, Try.ntmps50
    go_wp2
    go_ret2
    exact rpE_bad HK.out HB0.out
  · obtain ⟨n, hn⟩ : ∃ n : Nat, r.E = (n : Int) := ⟨r.E.toNat, (Int.toNat_of_nonneg h.1).symm⟩
    have heB : r.eB = true := by unfold RpV.eB; simp [h.1, h.2]
    have HEB := Lib.hid heB
    clear hr0 heB
    obtain ⟨E, G, a, b, c, d⟩ := r
    dsimp only at *
    subst hn
    have d0 : decide ((n : Int) < 0) = false := decide_eq_false (by omega)
    have d1 : decide ((16 : Int) < (n : Int)) = false := decide_eq_false (by omega)
    have ew : IntKind.u8.wrap (n : Int) = (n : Int) := IntWalk.u8_in _ (by omega)
    have HO : Hid (OwnB ((w.alloc (.cells #[.int .i64 (n : Int), .bool G, .int .i64 a, .int .i64 b, .int .i64 c, .int .i64 d] 82)).alloc (.cells #[.int .u8 (n : Int), .int .u8 0] 5)) (w.heap.size + 1) (some ⟨w.heap.size + 1, 0, none⟩) 2 2 [n, 0]) := by
      have := OwnB.lit (w.alloc (.cells #[.int .i64 (n : Int), .bool G, .int .i64 a, .int .i64 b, .int .i64 c, .int .i64 d] 82)) [n, 0] (by simp; omega) rfl (by simp [maxLen])
      rw [World.size_alloc] at this
      exact Lib.hid this
    have HB1 := Lib.hid (HB0.out.alloc (by simp) (.cells #[.int .u8 (n : Int), .int .u8 0] 5))
    have HO2 : Hid (OwnB ((w.alloc (.cells #[.int .i64 (n : Int), .bool G, .int .i64 a, .int .i64 b, .int .i64 c, .int .i64 d] 82)).alloc (.cells #[.int .u8 (n : Int), .int .u8 1] 5)) (w.heap.size + 1) (some ⟨w.heap.size + 1, 0, none⟩) 2 2 [n, 1]) := by
      have := OwnB.lit (w.alloc (.cells #[.int .i64 (n : Int), .bool G, .int .i64 a, .int .i64 b, .int .i64 c, .int .i64 d] 82)) [n, 1] (by simp; omega) rfl (by simp [maxLen])
      rw [World.size_alloc] at this
      exact Lib.hid this
    have HB2 := Lib.hid (HB0.out.alloc (by simp) (.cells #[.int .u8 (n : Int), .int .u8 1] 5))
    have HK1 := Lib.hid (HK0.out.alloc (.cells #[.int .u8 (n : Int), .int .u8 0] 5))
    clear HR0
    cases G with
    | false =>
      have HI : Hid (RpI w ⟨(n : Int), false, a, b, c, d⟩ 0 (.slice (some ⟨w.heap.size + 1, 0, none⟩) 2 2) ((w.alloc (.cells #[.int .i64 (n : Int), .bool false, .int .i64 a, .int .i64 b, .int .i64 c, .int .i64 d] 82)).alloc (.cells #[.int .u8 (n : Int), .int .u8 0] 5))) := Lib.hid (rpI_zero rfl 0 rfl (HO.out.mono (by omega)) HB1.out)
      clear HO HO2 HB1 HB2 HK1 HK0 HB0
      go_enter Try.func50, Try.ntmps50
      go_wp2_with fail
      go_loopw [4, 32] (fun pv iv wr => ∃ j : Nat, j ≤ 4 ∧ iv = .int .i64 (j : Int) ∧ RpI w ⟨(n : Int), false, a, b, c, d⟩ j pv wr ∧ ∀ i x, i < j → [a, b, c, d][i]? = some x → tkB x = true) (fun _ iv _ => 4 - (intOf iv).toNat)
      case atStart => exact ⟨0, by omega, rfl, HI.out, fun i x h => by omega⟩
      case round =>
        obtain ⟨j, hj, rfl, ⟨XA, cc, rfl, ho, hb⟩, htk⟩ := hrel
        have HOj := Lib.hid ho
        have HBj := Lib.hid hb
        have HTj := Lib.hid htk
        clear ho hb htk HI c0 c1 c2 c3 c4 c5
        rcases (by omega : j = 0 ∨ j = 1 ∨ j = 2 ∨ j = 3 ∨ j = 4) with rfl | rfl | rfl | rfl | rfl
        · cases hx : tkB a with
          | true =>
            have hxx := tkB_true hx
            have HT : Hid (∀ i x, i < 0 + 1 → [a, b, c, d][i]? = some x → tkB x = true) := by
              refine Lib.hid fun i x hi hx2 => ?_
              rcases (by omega : i < 0 ∨ i = 0) with h5 | h5
              · exact HTj.out i x h5 hx2
              · subst h5; simp at hx2; subst hx2; exact hx
            have Ha := Lib.hid hx
            have HCT : Hid (Calls Try.prog 100 #[.int .i64 a] wr fun e w' => e = .returned (.bool true) ∧ wr = w') := by have := wtick_any wr a; rw [hx] at this; exact Lib.hid this
            have eu := u64_nat hxx.1 hxx.2
            obtain ⟨xn, hxn⟩ : ∃ xn : Nat, a.toNat = xn := ⟨_, rfl⟩
            have hxl : xn ≤ 4611686018427387903 := by omega
            rw [hxn] at eu
            have HXN := Lib.hid hxn
            have HAP : Hid (Calls Try.prog 71 #[.slice XA (2 + 8 * 0) cc, .int .u64 (xn : Int), .int .i64 8] wr fun e w' => ∃ A' c', e = .returned (.slice A' (2 + 8 * 0 + 8) c') ∧ OwnB w' w.heap.size A' (2 + 8 * 0 + 8) c' (RpV.upto ⟨(n : Int), false, a, b, c, d⟩ 0 ++ Tk.wordV xn 8) ∧ Below w.heap.size wr w') := Lib.hid (append8 wr w.heap.size XA (2 + 8 * 0) cc xn _ HOj.out HBj.out.size (by omega) (by omega))
            have hix : ∀ wz, (Instr.index 145 (.agg #[.int .i64 a, .int .i64 b, .int .i64 c, .int .i64 d]) (.int .i64 0)).run Try.prog wz = .ok (.int .i64 a) wz := fun wz => run_idx4 wz _ _ _ _ 0 _ rfl (by omega)
            clear hx hxx hxn
            go_wp2_with fail
            with_reducible refine (HCT.out).mono ?_
            rintro e w' ⟨rfl, rfl⟩
            go_wp2_with fail
            refine (HAP.out).mono ?_
            rintro e w2 ⟨A', c', rfl, ho2, hb2⟩
            have HST : Hid (RpI w ⟨(n : Int), false, a, b, c, d⟩ (0 + 1) (.slice A' (2 + 8 * 0 + 8) c') w2) := Lib.hid (rpI_step (n := a) rfl (by rw [HXN.out]; exact ho2) (HBj.out.trans hb2))
            clear ho2 hb2
            go_wp2
            go_roundw
            case rel => exact ⟨0 + 1, by omega, rfl, HST.out, HT.out⟩
            case measure => simp [intOf]
          | false =>
            have hok : RpV.ok ⟨(n : Int), false, a, b, c, d⟩ = false := by unfold RpV.ok; simp [hx]
            have HCT : Hid (Calls Try.prog 100 #[.int .i64 a] wr fun e w' => e = .returned (.bool false) ∧ wr = w') := by have := wtick_any wr a; rw [hx] at this; exact Lib.hid this
            have HOK := Lib.hid hok
            have hix : ∀ wz, (Instr.index 145 (.agg #[.int .i64 a, .int .i64 b, .int .i64 c, .int .i64 d]) (.int .i64 0)).run Try.prog wz = .ok (.int .i64 a) wz := fun wz => run_idx4 wz _ _ _ _ 0 _ rfl (by omega)
            clear hx hok
            go_wp2_with fail
            with_reducible refine (HCT.out).mono ?_
            rintro e w' ⟨rfl, rfl⟩
            go_wp2
            go_ret2
            exact rpE_bad HOK.out HBj.out
        · cases hx : tkB b with
          | true =>
            have hxx := tkB_true hx
            have HT : Hid (∀ i x, i < 1 + 1 → [a, b, c, d][i]? = some x → tkB x = true) := by
              refine Lib.hid fun i x hi hx2 => ?_
              rcases (by omega : i < 1 ∨ i = 1) with h5 | h5
              · exact HTj.out i x h5 hx2
              · subst h5; simp at hx2; subst hx2; exact hx
            have Hb := Lib.hid hx
            have HCT : Hid (Calls Try.prog 100 #[.int .i64 b] wr fun e w' => e = .returned (.bool true) ∧ wr = w') := by have := wtick_any wr b; rw [hx] at this; exact Lib.hid this
            have eu := u64_nat hxx.1 hxx.2
            obtain ⟨xn, hxn⟩ : ∃ xn : Nat, b.toNat = xn := ⟨_, rfl⟩
            have hxl : xn ≤ 4611686018427387903 := by omega
            rw [hxn] at eu
            have HXN := Lib.hid hxn
            have HAP : Hid (Calls Try.prog 71 #[.slice XA (2 + 8 * 1) cc, .int .u64 (xn : Int), .int .i64 8] wr fun e w' => ∃ A' c', e = .returned (.slice A' (2 + 8 * 1 + 8) c') ∧ OwnB w' w.heap.size A' (2 + 8 * 1 + 8) c' (RpV.upto ⟨(n : Int), false, a, b, c, d⟩ 1 ++ Tk.wordV xn 8) ∧ Below w.heap.size wr w') := Lib.hid (append8 wr w.heap.size XA (2 + 8 * 1) cc xn _ HOj.out HBj.out.size (by omega) (by omega))
            have hix : ∀ wz, (Instr.index 145 (.agg #[.int .i64 a, .int .i64 b, .int .i64 c, .int .i64 d]) (.int .i64 1)).run Try.prog wz = .ok (.int .i64 b) wz := fun wz => run_idx4 wz _ _ _ _ 1 _ rfl (by omega)
            clear hx hxx hxn
            go_wp2_with fail
            with_reducible refine (HCT.out).mono ?_
            rintro e w' ⟨rfl, rfl⟩
            go_wp2_with fail
            refine (HAP.out).mono ?_
            rintro e w2 ⟨A', c', rfl, ho2, hb2⟩
            have HST : Hid (RpI w ⟨(n : Int), false, a, b, c, d⟩ (1 + 1) (.slice A' (2 + 8 * 1 + 8) c') w2) := Lib.hid (rpI_step (n := b) rfl (by rw [HXN.out]; exact ho2) (HBj.out.trans hb2))
            clear ho2 hb2
            go_wp2
            go_roundw
            case rel => exact ⟨1 + 1, by omega, rfl, HST.out, HT.out⟩
            case measure => simp [intOf]
          | false =>
            have hok : RpV.ok ⟨(n : Int), false, a, b, c, d⟩ = false := by unfold RpV.ok; simp [hx]
            have HCT : Hid (Calls Try.prog 100 #[.int .i64 b] wr fun e w' => e = .returned (.bool false) ∧ wr = w') := by have := wtick_any wr b; rw [hx] at this; exact Lib.hid this
            have HOK := Lib.hid hok
            have hix : ∀ wz, (Instr.index 145 (.agg #[.int .i64 a, .int .i64 b, .int .i64 c, .int .i64 d]) (.int .i64 1)).run Try.prog wz = .ok (.int .i64 b) wz := fun wz => run_idx4 wz _ _ _ _ 1 _ rfl (by omega)
            clear hx hok
            go_wp2_with fail
            with_reducible refine (HCT.out).mono ?_
            rintro e w' ⟨rfl, rfl⟩
            go_wp2
            go_ret2
            exact rpE_bad HOK.out HBj.out
        · cases hx : tkB c with
          | true =>
            have hxx := tkB_true hx
            have HT : Hid (∀ i x, i < 2 + 1 → [a, b, c, d][i]? = some x → tkB x = true) := by
              refine Lib.hid fun i x hi hx2 => ?_
              rcases (by omega : i < 2 ∨ i = 2) with h5 | h5
              · exact HTj.out i x h5 hx2
              · subst h5; simp at hx2; subst hx2; exact hx
            have Hc := Lib.hid hx
            have HCT : Hid (Calls Try.prog 100 #[.int .i64 c] wr fun e w' => e = .returned (.bool true) ∧ wr = w') := by have := wtick_any wr c; rw [hx] at this; exact Lib.hid this
            have eu := u64_nat hxx.1 hxx.2
            obtain ⟨xn, hxn⟩ : ∃ xn : Nat, c.toNat = xn := ⟨_, rfl⟩
            have hxl : xn ≤ 4611686018427387903 := by omega
            rw [hxn] at eu
            have HXN := Lib.hid hxn
            have HAP : Hid (Calls Try.prog 71 #[.slice XA (2 + 8 * 2) cc, .int .u64 (xn : Int), .int .i64 8] wr fun e w' => ∃ A' c', e = .returned (.slice A' (2 + 8 * 2 + 8) c') ∧ OwnB w' w.heap.size A' (2 + 8 * 2 + 8) c' (RpV.upto ⟨(n : Int), false, a, b, c, d⟩ 2 ++ Tk.wordV xn 8) ∧ Below w.heap.size wr w') := Lib.hid (append8 wr w.heap.size XA (2 + 8 * 2) cc xn _ HOj.out HBj.out.size (by omega) (by omega))
            have hix : ∀ wz, (Instr.index 145 (.agg #[.int .i64 a, .int .i64 b, .int .i64 c, .int .i64 d]) (.int .i64 2)).run Try.prog wz = .ok (.int .i64 c) wz := fun wz => run_idx4 wz _ _ _ _ 2 _ rfl (by omega)
            clear hx hxx hxn
            go_wp2_with fail
            with_reducible refine (HCT.out).mono ?_
            rintro e w' ⟨rfl, rfl⟩
            go_wp2_with fail
            refine (HAP.out).mono ?_
            rintro e w2 ⟨A', c', rfl, ho2, hb2⟩
            have HST : Hid (RpI w ⟨(n : Int), false, a, b, c, d⟩ (2 + 1) (.slice A' (2 + 8 * 2 + 8) c') w2) := Lib.hid (rpI_step (n := c) rfl (by rw [HXN.out]; exact ho2) (HBj.out.trans hb2))
            clear ho2 hb2
            go_wp2
            go_roundw
            case rel => exact ⟨2 + 1, by omega, rfl, HST.out, HT.out⟩
            case measure => simp [intOf]
          | false =>
            have hok : RpV.ok ⟨(n : Int), false, a, b, c, d⟩ = false := by unfold RpV.ok; simp [hx]
            have HCT : Hid (Calls Try.prog 100 #[.int .i64 c] wr fun e w' => e = .returned (.bool false) ∧ wr = w') := by have := wtick_any wr c; rw [hx] at this; exact Lib.hid this
            have HOK := Lib.hid hok
            have hix : ∀ wz, (Instr.index 145 (.agg #[.int .i64 a, .int .i64 b, .int .i64 c, .int .i64 d]) (.int .i64 2)).run Try.prog wz = .ok (.int .i64 c) wz := fun wz => run_idx4 wz _ _ _ _ 2 _ rfl (by omega)
            clear hx hok
            go_wp2_with fail
            with_reducible refine (HCT.out).mono ?_
            rintro e w' ⟨rfl, rfl⟩
            go_wp2
            go_ret2
            exact rpE_bad HOK.out HBj.out
        · cases hx : tkB d with
          | true =>
            have hxx := tkB_true hx
            have HT : Hid (∀ i x, i < 3 + 1 → [a, b, c, d][i]? = some x → tkB x = true) := by
              refine Lib.hid fun i x hi hx2 => ?_
              rcases (by omega : i < 3 ∨ i = 3) with h5 | h5
              · exact HTj.out i x h5 hx2
              · subst h5; simp at hx2; subst hx2; exact hx
            have Hd := Lib.hid hx
            have HCT : Hid (Calls Try.prog 100 #[.int .i64 d] wr fun e w' => e = .returned (.bool true) ∧ wr = w') := by have := wtick_any wr d; rw [hx] at this; exact Lib.hid this
            have eu := u64_nat hxx.1 hxx.2
            obtain ⟨xn, hxn⟩ : ∃ xn : Nat, d.toNat = xn := ⟨_, rfl⟩
            have hxl : xn ≤ 4611686018427387903 := by omega
            rw [hxn] at eu
            have HXN := Lib.hid hxn
            have HAP : Hid (Calls Try.prog 71 #[.slice XA (2 + 8 * 3) cc, .int .u64 (xn : Int), .int .i64 8] wr fun e w' => ∃ A' c', e = .returned (.slice A' (2 + 8 * 3 + 8) c') ∧ OwnB w' w.heap.size A' (2 + 8 * 3 + 8) c' (RpV.upto ⟨(n : Int), false, a, b, c, d⟩ 3 ++ Tk.wordV xn 8) ∧ Below w.heap.size wr w') := Lib.hid (append8 wr w.heap.size XA (2 + 8 * 3) cc xn _ HOj.out HBj.out.size (by omega) (by omega))
            have hix : ∀ wz, (Instr.index 145 (.agg #[.int .i64 a, .int .i64 b, .int .i64 c, .int .i64 d]) (.int .i64 3)).run Try.prog wz = .ok (.int .i64 d) wz := fun wz => run_idx4 wz _ _ _ _ 3 _ rfl (by omega)
            clear hx hxx hxn
            go_wp2_with fail
            with_reducible refine (HCT.out).mono ?_
            rintro e w' ⟨rfl, rfl⟩
            go_wp2_with fail
            refine (HAP.out).mono ?_
            rintro e w2 ⟨A', c', rfl, ho2, hb2⟩
            have HST : Hid (RpI w ⟨(n : Int), false, a, b, c, d⟩ (3 + 1) (.slice A' (2 + 8 * 3 + 8) c') w2) := Lib.hid (rpI_step (n := d) rfl (by rw [HXN.out]; exact ho2) (HBj.out.trans hb2))
            clear ho2 hb2
            go_wp2
            go_roundw
            case rel => exact ⟨3 + 1, by omega, rfl, HST.out, HT.out⟩
            case measure => simp [intOf]
          | false =>
            have hok : RpV.ok ⟨(n : Int), false, a, b, c, d⟩ = false := by unfold RpV.ok; simp [hx]
            have HCT : Hid (Calls Try.prog 100 #[.int .i64 d] wr fun e w' => e = .returned (.bool false) ∧ wr = w') := by have := wtick_any wr d; rw [hx] at this; exact Lib.hid this
            have HOK := Lib.hid hok
            have hix : ∀ wz, (Instr.index 145 (.agg #[.int .i64 a, .int .i64 b, .int .i64 c, .int .i64 d]) (.int .i64 3)).run Try.prog wz = .ok (.int .i64 d) wz := fun wz => run_idx4 wz _ _ _ _ 3 _ rfl (by omega)
            clear hx hok
            go_wp2_with fail
            with_reducible refine (HCT.out).mono ?_
            rintro e w' ⟨rfl, rfl⟩
            go_wp2
            go_ret2
            exact rpE_bad HOK.out HBj.out
        · have hok : RpV.ok ⟨(n : Int), false, a, b, c, d⟩ = true := by
            have h := HTj.out
            have h0 := h 0 a (by omega) rfl
            have h1 := h 1 b (by omega) rfl
            have h2 := h 2 c (by omega) rfl
            have h3 := h 3 d (by omega) rfl
            unfold RpV.ok
            rw [HEB.out]; simp [h0, h1, h2, h3]
          have HOK := Lib.hid hok
          clear hok
          go_wp2
          go_ret2
          refine ⟨XA, 34, cc, by rw [HOK.out]; rfl, ?_, HBj.out⟩
          rw [HOK.out]
          have := HOj.out
          rw [RpV.upto4] at this
          exact this.arg
    | true =>
      have HI : Hid (RpI w ⟨(n : Int), true, a, b, c, d⟩ 0 (.slice (some ⟨w.heap.size + 1, 0, none⟩) 2 2) ((w.alloc (.cells #[.int .i64 (n : Int), .bool true, .int .i64 a, .int .i64 b, .int .i64 c, .int .i64 d] 82)).alloc (.cells #[.int .u8 (n : Int), .int .u8 1] 5))) := Lib.hid (rpI_zero rfl 1 rfl (HO2.out.mono (by omega)) HB2.out)
      clear HO HO2 HB1 HB2 HK1 HK0 HB0
      go_enter Try.func50, Try.ntmps50
      go_wp2_with fail
      go_loopw [4, 32] (fun pv iv wr => ∃ j : Nat, j ≤ 4 ∧ iv = .int .i64 (j : Int) ∧ RpI w ⟨(n : Int), true, a, b, c, d⟩ j pv wr ∧ ∀ i x, i < j → [a, b, c, d][i]? = some x → tkB x = true) (fun _ iv _ => 4 - (intOf iv).toNat)
      case atStart => exact ⟨0, by omega, rfl, HI.out, fun i x h => by omega⟩
      case round =>
        obtain ⟨j, hj, rfl, ⟨XA, cc, rfl, ho, hb⟩, htk⟩ := hrel
        have HOj := Lib.hid ho
        have HBj := Lib.hid hb
        have HTj := Lib.hid htk
        clear ho hb htk HI c0 c1 c2 c3 c4 c5
        rcases (by omega : j = 0 ∨ j = 1 ∨ j = 2 ∨ j = 3 ∨ j = 4) with rfl | rfl | rfl | rfl | rfl
        · cases hx : tkB a with
          | true =>
            have hxx := tkB_true hx
            have HT : Hid (∀ i x, i < 0 + 1 → [a, b, c, d][i]? = some x → tkB x = true) := by
              refine Lib.hid fun i x hi hx2 => ?_
              rcases (by omega : i < 0 ∨ i = 0) with h5 | h5
              · exact HTj.out i x h5 hx2
              · subst h5; simp at hx2; subst hx2; exact hx
            have Ha := Lib.hid hx
            have HCT : Hid (Calls Try.prog 100 #[.int .i64 a] wr fun e w' => e = .returned (.bool true) ∧ wr = w') := by have := wtick_any wr a; rw [hx] at this; exact Lib.hid this
            have eu := u64_nat hxx.1 hxx.2
            obtain ⟨xn, hxn⟩ : ∃ xn : Nat, a.toNat = xn := ⟨_, rfl⟩
            have hxl : xn ≤ 4611686018427387903 := by omega
            rw [hxn] at eu
            have HXN := Lib.hid hxn
            have HAP : Hid (Calls Try.prog 71 #[.slice XA (2 + 8 * 0) cc, .int .u64 (xn : Int), .int .i64 8] wr fun e w' => ∃ A' c', e = .returned (.slice A' (2 + 8 * 0 + 8) c') ∧ OwnB w' w.heap.size A' (2 + 8 * 0 + 8) c' (RpV.upto ⟨(n : Int), true, a, b, c, d⟩ 0 ++ Tk.wordV xn 8) ∧ Below w.heap.size wr w') := Lib.hid (append8 wr w.heap.size XA (2 + 8 * 0) cc xn _ HOj.out HBj.out.size (by omega) (by omega))
            have hix : ∀ wz, (Instr.index 145 (.agg #[.int .i64 a, .int .i64 b, .int .i64 c, .int .i64 d]) (.int .i64 0)).run Try.prog wz = .ok (.int .i64 a) wz := fun wz => run_idx4 wz _ _ _ _ 0 _ rfl (by omega)
            clear hx hxx hxn
            go_wp2_with fail
            with_reducible refine (HCT.out).mono ?_
            rintro e w' ⟨rfl, rfl⟩
            go_wp2_with fail
            refine (HAP.out).mono ?_
            rintro e w2 ⟨A', c', rfl, ho2, hb2⟩
            have HST : Hid (RpI w ⟨(n : Int), true, a, b, c, d⟩ (0 + 1) (.slice A' (2 + 8 * 0 + 8) c') w2) := Lib.hid (rpI_step (n := a) rfl (by rw [HXN.out]; exact ho2) (HBj.out.trans hb2))
            clear ho2 hb2
            go_wp2
            go_roundw
            case rel => exact ⟨0 + 1, by omega, rfl, HST.out, HT.out⟩
            case measure => simp [intOf]
          | false =>
            have hok : RpV.ok ⟨(n : Int), true, a, b, c, d⟩ = false := by unfold RpV.ok; simp [hx]
            have HCT : Hid (Calls Try.prog 100 #[.int .i64 a] wr fun e w' => e = .returned (.bool false) ∧ wr = w') := by have := wtick_any wr a; rw [hx] at this; exact Lib.hid this
            have HOK := Lib.hid hok
            have hix : ∀ wz, (Instr.index 145 (.agg #[.int .i64 a, .int .i64 b, .int .i64 c, .int .i64 d]) (.int .i64 0)).run Try.prog wz = .ok (.int .i64 a) wz := fun wz => run_idx4 wz _ _ _ _ 0 _ rfl (by omega)
            clear hx hok
            go_wp2_with fail
            with_reducible refine (HCT.out).mono ?_
            rintro e w' ⟨rfl, rfl⟩
            go_wp2
            go_ret2
            exact rpE_bad HOK.out HBj.out
        · cases hx : tkB b with
          | true =>
            have hxx := tkB_true hx
            have HT : Hid (∀ i x, i < 1 + 1 → [a, b, c, d][i]? = some x → tkB x = true) := by
              refine Lib.hid fun i x hi hx2 => ?_
              rcases (by omega : i < 1 ∨ i = 1) with h5 | h5
              · exact HTj.out i x h5 hx2
              · subst h5; simp at hx2; subst hx2; exact hx
            have Hb := Lib.hid hx
            have HCT : Hid (Calls Try.prog 100 #[.int .i64 b] wr fun e w' => e = .returned (.bool true) ∧ wr = w') := by have := wtick_any wr b; rw [hx] at this; exact Lib.hid this
            have eu := u64_nat hxx.1 hxx.2
            obtain ⟨xn, hxn⟩ : ∃ xn : Nat, b.toNat = xn := ⟨_, rfl⟩
            have hxl : xn ≤ 4611686018427387903 := by omega
            rw [hxn] at eu
            have HXN := Lib.hid hxn
            have HAP : Hid (Calls Try.prog 71 #[.slice XA (2 + 8 * 1) cc, .int .u64 (xn : Int), .int .i64 8] wr fun e w' => ∃ A' c', e = .returned (.slice A' (2 + 8 * 1 + 8) c') ∧ OwnB w' w.heap.size A' (2 + 8 * 1 + 8) c' (RpV.upto ⟨(n : Int), true, a, b, c, d⟩ 1 ++ Tk.wordV xn 8) ∧ Below w.heap.size wr w') := Lib.hid (append8 wr w.heap.size XA (2 + 8 * 1) cc xn _ HOj.out HBj.out.size (by omega) (by omega))
            have hix : ∀ wz, (Instr.index 145 (.agg #[.int .i64 a, .int .i64 b, .int .i64 c, .int .i64 d]) (.int .i64 1)).run Try.prog wz = .ok (.int .i64 b) wz := fun wz => run_idx4 wz _ _ _ _ 1 _ rfl (by omega)
            clear hx hxx hxn
            go_wp2_with fail
            with_reducible refine (HCT.out).mono ?_
            rintro e w' ⟨rfl, rfl⟩
            go_wp2_with fail
            refine (HAP.out).mono ?_
            rintro e w2 ⟨A', c', rfl, ho2, hb2⟩
            have HST : Hid (RpI w ⟨(n : Int), true, a, b, c, d⟩ (1 + 1) (.slice A' (2 + 8 * 1 + 8) c') w2) := Lib.hid (rpI_step (n := b) rfl (by rw [HXN.out]; exact ho2) (HBj.out.trans hb2))
            clear ho2 hb2
            go_wp2
            go_roundw
            case rel => exact ⟨1 + 1, by omega, rfl, HST.out, HT.out⟩
            case measure => simp [intOf]
          | false =>
            have hok : RpV.ok ⟨(n : Int), true, a, b, c, d⟩ = false := by unfold RpV.ok; simp [hx]
            have HCT : Hid (Calls Try.prog 100 #[.int .i64 b] wr fun e w' => e = .returned (.bool false) ∧ wr = w') := by have := wtick_any wr b; rw [hx] at this; exact Lib.hid this
            have HOK := Lib.hid hok
            have hix : ∀ wz, (Instr.index 145 (.agg #[.int .i64 a, .int .i64 b, .int .i64 c, .int .i64 d]) (.int .i64 1)).run Try.prog wz = .ok (.int .i64 b) wz := fun wz => run_idx4 wz _ _ _ _ 1 _ rfl (by omega)
            clear hx hok
            go_wp2_with fail
            with_reducible refine (HCT.out).mono ?_
            rintro e w' ⟨rfl, rfl⟩
            go_wp2
            go_ret2
            exact rpE_bad HOK.out HBj.out
        · cases hx : tkB c with
          | true =>
            have hxx := tkB_true hx
            have HT : Hid (∀ i x, i < 2 + 1 → [a, b, c, d][i]? = some x → tkB x = true) := by
              refine Lib.hid fun i x hi hx2 => ?_
              rcases (by omega : i < 2 ∨ i = 2) with h5 | h5
              · exact HTj.out i x h5 hx2
              · subst h5; simp at hx2; subst hx2; exact hx
            have Hc := Lib.hid hx
            have HCT : Hid (Calls Try.prog 100 #[.int .i64 c] wr fun e w' => e = .returned (.bool true) ∧ wr = w') := by have := wtick_any wr c; rw [hx] at this; exact Lib.hid this
            have eu := u64_nat hxx.1 hxx.2
            obtain ⟨xn, hxn⟩ : ∃ xn : Nat, c.toNat = xn := ⟨_, rfl⟩
            have hxl : xn ≤ 4611686018427387903 := by omega
            rw [hxn] at eu
            have HXN := Lib.hid hxn
            have HAP : Hid (Calls Try.prog 71 #[.slice XA (2 + 8 * 2) cc, .int .u64 (xn : Int), .int .i64 8] wr fun e w' => ∃ A' c', e = .returned (.slice A' (2 + 8 * 2 + 8) c') ∧ OwnB w' w.heap.size A' (2 + 8 * 2 + 8) c' (RpV.upto ⟨(n : Int), true, a, b, c, d⟩ 2 ++ Tk.wordV xn 8) ∧ Below w.heap.size wr w') := Lib.hid (append8 wr w.heap.size XA (2 + 8 * 2) cc xn _ HOj.out HBj.out.size (by omega) (by omega))
            have hix : ∀ wz, (Instr.index 145 (.agg #[.int .i64 a, .int .i64 b, .int .i64 c, .int .i64 d]) (.int .i64 2)).run Try.prog wz = .ok (.int .i64 c) wz := fun wz => run_idx4 wz _ _ _ _ 2 _ rfl (by omega)
            clear hx hxx hxn
            go_wp2_with fail
            with_reducible refine (HCT.out).mono ?_
            rintro e w' ⟨rfl, rfl⟩
            go_wp2_with fail
            refine (HAP.out).mono ?_
            rintro e w2 ⟨A', c', rfl, ho2, hb2⟩
            have HST : Hid (RpI w ⟨(n : Int), true, a, b, c, d⟩ (2 + 1) (.slice A' (2 + 8 * 2 + 8) c') w2) := Lib.hid (rpI_step (n := c) rfl (by rw [HXN.out]; exact ho2) (HBj.out.trans hb2))
            clear ho2 hb2
            go_wp2
            go_roundw
            case rel => exact ⟨2 + 1, by omega, rfl, HST.out, HT.out⟩
            case measure => simp [intOf]
          | false =>
            have hok : RpV.ok ⟨(n : Int), true, a, b, c, d⟩ = false := by unfold RpV.ok; simp [hx]
            have HCT : Hid (Calls Try.prog 100 #[.int .i64 c] wr fun e w' => e = .returned (.bool false) ∧ wr = w') := by have := wtick_any wr c; rw [hx] at this; exact Lib.hid this
            have HOK := Lib.hid hok
            have hix : ∀ wz, (Instr.index 145 (.agg #[.int .i64 a, .int .i64 b, .int .i64 c, .int .i64 d]) (.int .i64 2)).run Try.prog wz = .ok (.int .i64 c) wz := fun wz => run_idx4 wz _ _ _ _ 2 _ rfl (by omega)
            clear hx hok
            go_wp2_with fail
            with_reducible refine (HCT.out).mono ?_
            rintro e w' ⟨rfl, rfl⟩
            go_wp2
            go_ret2
            exact rpE_bad HOK.out HBj.out
        · cases hx : tkB d with
          | true =>
            have hxx := tkB_true hx
            have HT : Hid (∀ i x, i < 3 + 1 → [a, b, c, d][i]? = some x → tkB x = true) := by
              refine Lib.hid fun i x hi hx2 => ?_
              rcases (by omega : i < 3 ∨ i = 3) with h5 | h5
              · exact HTj.out i x h5 hx2
              · subst h5; simp at hx2; subst hx2; exact hx
            have Hd := Lib.hid hx
            have HCT : Hid (Calls Try.prog 100 #[.int .i64 d] wr fun e w' => e = .returned (.bool true) ∧ wr = w') := by have := wtick_any wr d; rw [hx] at this; exact Lib.hid this
            have eu := u64_nat hxx.1 hxx.2
            obtain ⟨xn, hxn⟩ : ∃ xn : Nat, d.toNat = xn := ⟨_, rfl⟩
            have hxl : xn ≤ 4611686018427387903 := by omega
            rw [hxn] at eu
            have HXN := Lib.hid hxn
            have HAP : Hid (Calls Try.prog 71 #[.slice XA (2 + 8 * 3) cc, .int .u64 (xn : Int), .int .i64 8] wr fun e w' => ∃ A' c', e = .returned (.slice A' (2 + 8 * 3 + 8) c') ∧ OwnB w' w.heap.size A' (2 + 8 * 3 + 8) c' (RpV.upto ⟨(n : Int), true, a, b, c, d⟩ 3 ++ Tk.wordV xn 8) ∧ Below w.heap.size wr w') := Lib.hid (append8 wr w.heap.size XA (2 + 8 * 3) cc xn _ HOj.out HBj.out.size (by omega) (by omega))
            have hix : ∀ wz, (Instr.index 145 (.agg #[.int .i64 a, .int .i64 b, .int .i64 c, .int .i64 d]) (.int .i64 3)).run Try.prog wz = .ok (.int .i64 d) wz := fun wz => run_idx4 wz _ _ _ _ 3 _ rfl (by omega)
            clear hx hxx hxn
            go_wp2_with fail
            with_reducible refine (HCT.out).mono ?_
            rintro e w' ⟨rfl, rfl⟩
            go_wp2_with fail
            refine (HAP.out).mono ?_
            rintro e w2 ⟨A', c', rfl, ho2, hb2⟩
            have HST : Hid (RpI w ⟨(n : Int), true, a, b, c, d⟩ (3 + 1) (.slice A' (2 + 8 * 3 + 8) c') w2) := Lib.hid (rpI_step (n := d) rfl (by rw [HXN.out]; exact ho2) (HBj.out.trans hb2))
            clear ho2 hb2
            go_wp2
            go_roundw
            case rel => exact ⟨3 + 1, by omega, rfl, HST.out, HT.out⟩
            case measure => simp [intOf]
          | false =>
            have hok : RpV.ok ⟨(n : Int), true, a, b, c, d⟩ = false := by unfold RpV.ok; simp [hx]
            have HCT : Hid (Calls Try.prog 100 #[.int .i64 d] wr fun e w' => e = .returned (.bool false) ∧ wr = w') := by have := wtick_any wr d; rw [hx] at this; exact Lib.hid this
            have HOK := Lib.hid hok
            have hix : ∀ wz, (Instr.index 145 (.agg #[.int .i64 a, .int .i64 b, .int .i64 c, .int .i64 d]) (.int .i64 3)).run Try.prog wz = .ok (.int .i64 d) wz := fun wz => run_idx4 wz _ _ _ _ 3 _ rfl (by omega)
            clear hx hok
            go_wp2_with fail
            with_reducible refine (HCT.out).mono ?_
            rintro e w' ⟨rfl, rfl⟩
            go_wp2
            go_ret2
            exact rpE_bad HOK.out HBj.out
        · have hok : RpV.ok ⟨(n : Int), true, a, b, c, d⟩ = true := by
            have h := HTj.out
            have h0 := h 0 a (by omega) rfl
            have h1 := h 1 b (by omega) rfl
            have h2 := h 2 c (by omega) rfl
            have h3 := h 3 d (by omega) rfl
            unfold RpV.ok
            rw [HEB.out]; simp [h0, h1, h2, h3]
          have HOK := Lib.hid hok
          clear hok
          go_wp2
          go_ret2
          refine ⟨XA, 34, cc, by rw [HOK.out]; rfl, ?_, HBj.out⟩
          rw [HOK.out]
          have := HOj.out
          rw [RpV.upto4] at this
          exact this.arg
end Go.Proofs.Ytndgladfcogiiaa
