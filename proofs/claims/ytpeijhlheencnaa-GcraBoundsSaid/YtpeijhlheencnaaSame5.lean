/- The law GcraRuns: its walk. -/
import Derived.Test.YtpeijhlheencnaaRunD
import Derived.Test.YtpeijhlheencnaaLaw5b
import Derived.Deep.RegionHeld3
namespace Go.Proofs.Ytpeijhlheencnaa
open Go.RowKit
set_option maxRecDepth 100000
set_option linter.unusedVariables false

theorem neqA (x y : Int) (w : World) : (binOp .neq 40 (.agg #[.int .i64 x, .int .i64 y]) (.agg #[.int .i64 x, .int .i64 y])).run Try.prog w = .ok (.bool false) w := by
  simp [go_sem, Result.andThen]

/-- How Run and DocRun end here: an error and none, or OK and k answers. -/
def RunEnd (E : TypeId) (er : Int) (k : Nat) (cs : List Value) (w : World) (e : Ending) (w' : World) : Prop :=
  ∃ A c, e = .returned (.tuple #[.slice A k c, .int .i64 er]) ∧ OwnC w' w.heap.size E 4 A k c cs ∧ Below w.heap.size w w'

theorem runC_row (T Tau tat : Nat) (L : List (Nat × Nat)) (k i : Nat) (hi : i < k) : ∃ (g : Bool) (t x l : Nat), (runC T Tau tat L k)[i * 4]? = some (.bool g) ∧ (runC T Tau tat L k)[i * 4 + 1]? = some (.int .i64 (t : Int)) ∧ (runC T Tau tat L k)[i * 4 + 2]? = some (.int .i64 (x : Int)) ∧ (runC T Tau tat L k)[i * 4 + 3]? = some (.int .i64 (l : Int)) :=
  ⟨_, _, _, _, runC_at T Tau tat L k i 0 hi (by omega), runC_at T Tau tat L k i 1 hi (by omega), runC_at T Tau tat L k i 2 hi (by omega), runC_at T Tau tat L k i 3 hi (by omega)⟩

def CmpInv5 (w : World) (n : Nat) (iv : Value) (wr : World) : Prop := ∃ i : Nat, i ≤ n ∧ iv = .int .i64 (i : Int) ∧ Below w.heap.size w wr
def CmpInv6 (w : World) (n : Nat) (iv : Value) (wr : World) : Prop := ∃ i : Nat, i ≤ n ∧ iv = .int .i64 (i : Int) ∧ Below w.heap.size w wr

set_option maxHeartbeats 6400000 in
theorem gcraRuns_gen (TI TauI tatI : Int) (A : Option Addr) (n c : Nat) (l : List (Int × Int)) (w : World) (h : ArgC w w.heap.size 2 A n c (F2 l)) (hn : n ≤ 8796093021952) (er : Int) (k T Tau tat : Nat) (L : List (Nat × Nat))
    (HR : Hid (∀ (w' : World) (B : Nat) (F : Option Addr) (d : Nat), ArgC w' B 2 F n d (F2 l) → B ≤ w'.heap.size → Calls Try.prog 8 #[.agg #[.int .i64 TI, .int .i64 TauI], .int .i64 tatI, .slice F n d] w' (RunEnd 37 er k (runC T Tau tat L k) w')))
    (HD : Hid (∀ (w' : World) (B : Nat) (F : Option Addr) (d : Nat), ArgC w' B 2 F n d (F2 l) → B ≤ w'.heap.size → Calls Try.prog 9 #[.agg #[.int .i64 TI, .int .i64 TauI], .int .i64 tatI, .slice F n d] w' (RunEnd 38 er k (runC T Tau tat L k) w'))) :
    Calls Try.prog 3 #[.agg #[.int .i64 TI, .int .i64 TauI], .int .i64 tatI, .slice A n c] w (ValEnd w (.bool true)) := by
  have her : (er != er) = false := by simp
  have hkk : ((k : Int) != (k : Int)) = false := by simp
  have hln : l.length = n := by have := h.len; rw [F2_len] at this; omega
  have HLN := Lib.hid hln
  have HA := Lib.hid h
  have hle := h.le
  have hcap := h.cap
  unfold maxLen at hcap
  have B0 := Lib.hid ((Below.refl w.heap.size w).alloc (Nat.le_refl _) (.cells #[.int .i64 TI, .int .i64 TauI] 23))
  have K0 := Lib.hid (BlkL.new w [.int .i64 TI, .int .i64 TauI] 23)
  clear h hln
  go_enter Try.func3, Try.ntmps3
  go_wp2_with fail
  with_reducible refine (awake5_any _).mono ?_
  rintro e w1 ⟨rfl, hb⟩
  have HB1 := Lib.hid (B0.out.trans (hb.mono (by simp)))
  have K1 := Lib.hid (K0.out.below hb)
  have hz1 := HB1.out.size
  clear hb B0 K0
  go_wp2_with fail
  with_reducible refine (asks_any _ _ A n c l (HA.out.below HB1.out) hz1 (by omega)).mono ?_
  rintro e w2 ⟨F, d, rfl, ho, hb⟩
  have HB2 := Lib.hid (HB1.out.trans (hb.mono hz1))
  have k2 := K1.out.below hb
  have HF2 := Lib.hid ho.arg
  have hdl := ho.arg.le
  have hdc := ho.arg.cap
  unfold maxLen at hdc
  have hfr := ho.arg.to_ (m := n) (by omega)
  rw [F2_append, List.take_left' (by rw [F2_len, HLN.out])] at hfr
  have HFR := Lib.hid hfr
  have hz2 := HB2.out.size
  have l0 := k2.cell 0 _ rfl
  have l1 := k2.cell 1 _ rfl
  have zl := k2.lt
  have K2 := Lib.hid k2
  have HRR := Lib.hid (HR.out w2.drew w2.heap.size F d (hfr.drewN 1) (by simp))
  have i0 : (0 : Int) ≤ (n : Int) := by omega
  have i1 : (n : Int) ≤ (d : Int) := by omega
  have i2 : ¬ d < n := by omega
  clear ho hb HB1 K1 hfr k2
  go_wp2_with fail
  go_region_held3 (fun w' => w'.cell? ⟨w.heap.size, 0, none⟩ = some (.int .i64 TI) ∧ w'.cell? ⟨w.heap.size, 1, none⟩ = some (.int .i64 TauI)) (go_keep)
    (first
      | ((with_reducible refine HRR.out.mono ?_); rintro e w3 ⟨R, rc, rfl, hor, hb⟩; have HOR := Lib.hid hor; have k3 := (K2.out.drewN 1).below hb; have d0 := k3.cell 0 _ rfl; have d1 := k3.cell 1 _ rfl; have d2 := k3.lt; have K3 := Lib.hid k3; have HBr := Lib.hid hb; clear hor hb k3))
  have hb := HBr.out
  have HB3 := Lib.hid ((HB2.out.drew).trans (hb.mono hz2))
  have HF3 := Lib.hid ((HF2.out.drewN 1).below hb)
  have hz3 := HB3.out.size
  have hz23 : w2.heap.size ≤ w3.heap.size := hb.size
  clear hb HBr HB2 K2 HF2 HFR HRR l0 l1 zl d2
  go_wp2_with fail
  with_reducible refine (HD.out w3 _ A c (HA.out.below HB3.out) hz3).mono ?_
  rintro e w4 ⟨D, dc, rfl, hod, hb⟩
  have HB4 := Lib.hid (HB3.out.trans (hb.mono hz3))
  have hz4 := HB4.out.size
  have HF4 := Lib.hid (HF3.out.below (hb.mono hz23))
  have hz34 := hb.size
  have HR4 := Lib.hid (HOR.out.arg.below hb)
  have HD4 := Lib.hid hod.arg
  have hrl := HR4.out.le
  have hrc := HR4.out.cap
  unfold maxLen at hrc
  have hdl2 := HD4.out.le
  have hdc2 := HD4.out.cap
  unfold maxLen at hdc2
  clear hb hod HOR HB3 HF3 d0 d1 K3
  go_wp2
  go_loopw [48] (fun iv wr => CmpInv5 w4 k iv wr) (fun iv _ => k - (intOf iv).toNat)
  case atStart => exact ⟨0, Nat.zero_le _, rfl, Below.refl _ _⟩
  case round =>
    obtain ⟨i, hi, rfl, hbel⟩ := hrel
    have hsz := hbel.size
    have HBEL := Lib.hid hbel
    have hRk := HR4.out.below (hbel.mono hz34)
    have hDk := HD4.out.below hbel
    clear hbel
    rcases Nat.lt_or_ge i k with h1 | h1
    · obtain ⟨b1, o1, rfl, hlt1, hc1⟩ := hRk.at_ (by omega)
      obtain ⟨b2, o2, rfl, hlt2, hc2⟩ := hDk.at_ (by omega)
      obtain ⟨g, t, x, lf, q0, q1, q2, q3⟩ := runC_row T Tau tat L k i h1
      have a0 : wr.cell? ⟨b1, o1 + i * 4, none⟩ = some (.bool g) := (hc1 (i * 4) (by omega)).trans q0
      have a1 : wr.cell? ⟨b1, o1 + i * 4 + 1, none⟩ = some (.int .i64 (t : Int)) := (hc1 (i * 4 + 1) (by omega)).trans q1
      have a2 : wr.cell? ⟨b1, o1 + i * 4 + 2, none⟩ = some (.int .i64 (x : Int)) := (hc1 (i * 4 + 2) (by omega)).trans q2
      have a3 : wr.cell? ⟨b1, o1 + i * 4 + 3, none⟩ = some (.int .i64 (lf : Int)) := (hc1 (i * 4 + 3) (by omega)).trans q3
      have e0 : wr.cell? ⟨b2, o2 + i * 4, none⟩ = some (.bool g) := (hc2 (i * 4) (by omega)).trans q0
      have e1 : wr.cell? ⟨b2, o2 + i * 4 + 1, none⟩ = some (.int .i64 (t : Int)) := (hc2 (i * 4 + 1) (by omega)).trans q1
      have e2 : wr.cell? ⟨b2, o2 + i * 4 + 2, none⟩ = some (.int .i64 (x : Int)) := (hc2 (i * 4 + 2) (by omega)).trans q2
      have e3 : wr.cell? ⟨b2, o2 + i * 4 + 3, none⟩ = some (.int .i64 (lf : Int)) := (hc2 (i * 4 + 3) (by omega)).trans q3
      have j0 : (0 : Int) ≤ (i : Int) := by omega
      have j1 : (i : Int) < (k : Int) := by omega
      have j2 : ¬ k ≤ i := by omega
      have hb1w : b1 < wr.heap.size := by omega
      have hb2w : b2 < wr.heap.size := by omega
      clear hc1 hc2 q0 q1 q2 q3 hRk hDk
      go_wp2
      go_region_held3 (fun w' => w'.cell? ⟨b1, o1 + i * 4, none⟩ = some (.bool g) ∧ w'.cell? ⟨b1, o1 + i * 4 + 1, none⟩ = some (.int .i64 (t : Int)) ∧ w'.cell? ⟨b1, o1 + i * 4 + 2, none⟩ = some (.int .i64 (x : Int)) ∧ w'.cell? ⟨b1, o1 + i * 4 + 3, none⟩ = some (.int .i64 (lf : Int)) ∧
          w'.cell? ⟨b2, o2 + i * 4, none⟩ = some (.bool g) ∧ w'.cell? ⟨b2, o2 + i * 4 + 1, none⟩ = some (.int .i64 (t : Int)) ∧ w'.cell? ⟨b2, o2 + i * 4 + 2, none⟩ = some (.int .i64 (x : Int)) ∧ w'.cell? ⟨b2, o2 + i * 4 + 3, none⟩ = some (.int .i64 (lf : Int))) (go_keep)
        (first
          | ((with_reducible refine (same5_refl _ g t x lf).mono ?_); rintro e w5 ⟨rfl, hb⟩; have Hb := Lib.hid hb; have f0 := (hb.cell (p := ⟨b1, o1 + i * 4, none⟩) hb1w).trans a0; have f1 := (hb.cell (p := ⟨b1, o1 + i * 4 + 1, none⟩) hb1w).trans a1; have f2 := (hb.cell (p := ⟨b1, o1 + i * 4 + 2, none⟩) hb1w).trans a2; have f3 := (hb.cell (p := ⟨b1, o1 + i * 4 + 3, none⟩) hb1w).trans a3; have g0 := (hb.cell (p := ⟨b2, o2 + i * 4, none⟩) hb2w).trans e0; have g1 := (hb.cell (p := ⟨b2, o2 + i * 4 + 1, none⟩) hb2w).trans e1; have g2 := (hb.cell (p := ⟨b2, o2 + i * 4 + 2, none⟩) hb2w).trans e2; have g3 := (hb.cell (p := ⟨b2, o2 + i * 4 + 3, none⟩) hb2w).trans e3; clear hb))
      have HB5 := Lib.hid (HBEL.out.drew.trans (Hb.out.mono hsz))
      clear a0 a1 a2 a3 e0 e1 e2 e3 f0 f1 f2 f3 g0 g1 g2 g3 Hb
      go_wp2
      go_roundw
      case rel => exact ⟨i + 1, by omega, by go_num, HB5.out⟩
      case measure => simp [intOf]; omega
    · obtain rfl : i = k := by omega
      have HB5 := Lib.hid (HB4.out.trans (HBEL.out.mono hz4))
      have HF5 := Lib.hid (HF4.out.below (HBEL.out.mono (by omega)))
      have hz5 := HB5.out.size
      have hz25 : w2.heap.size ≤ wr.heap.size := by omega
      clear hRk hDk HR4 HD4 HB4 HF4 HBEL
      go_wp2_with fail
      with_reducible refine (asks_any _ _ A n c l (HA.out.below HB5.out) hz5 (by omega)).mono ?_
      rintro e w6 ⟨F2', d2, rfl, ho, hb⟩
      have HB6 := Lib.hid (HB5.out.trans (hb.mono hz5))
      have hz6 := HB6.out.size
      have HF6 := Lib.hid (HF5.out.below (hb.mono hz25))
      have HG6 := Lib.hid ho.arg
      have hz56 := hb.size
      have hgl := ho.arg.le
      have hgc := ho.arg.cap
      unfold maxLen at hgc
      clear hb ho HB5 HF5
      go_wp2
      obtain ⟨wo, rfl⟩ : ∃ wo : World, wo = wr := ⟨_, rfl⟩
      go_loopw [65] (fun iv wr => CmpInv5 w6 (n + 1) iv wr) (fun iv _ => n + 1 - (intOf iv).toNat)
      case atStart => exact ⟨0, Nat.zero_le _, rfl, Below.refl _ _⟩
      case round =>
        obtain ⟨j, hj, rfl, hbel⟩ := hrel
        have hsz := hbel.size
        have HBEL := Lib.hid hbel
        have hFk := HF6.out.below (hbel.mono (by omega))
        have hGk := HG6.out.below hbel
        clear hbel
        rcases Nat.lt_or_ge j (n + 1) with h1 | h1
        · obtain ⟨b1, o1, rfl, hlt1, hc1⟩ := hFk.at_ (by omega)
          obtain ⟨b2, o2, rfl, hlt2, hc2⟩ := hGk.at_ (by omega)
          have hll : j < (l ++ [((77 : Int), (78 : Int))]).length := by rw [List.length_append, HLN.out]; simpa using h1
          have hf := F2_at (l ++ [((77 : Int), (78 : Int))]) j hll
          have q0 := (hc1 (j * 2) (by omega)).trans hf.1
          have q1 := (hc1 (j * 2 + 1) (by omega)).trans hf.2
          have p0 := (hc2 (j * 2) (by omega)).trans hf.1
          have p1 := (hc2 (j * 2 + 1) (by omega)).trans hf.2
          clear hc1 hc2 hf hll hFk hGk
          generalize (l ++ [((77 : Int), (78 : Int))]).getD j (0, 0) = a at q0 q1 p0 p1
          obtain ⟨x, y⟩ := a
          simp only at q0 q1 p0 p1
          have q1 : wr.cell? ⟨b1, o1 + j * 2 + 1, none⟩ = some (.int .i64 y) := q1
          have p1 : wr.cell? ⟨b2, o2 + j * 2 + 1, none⟩ = some (.int .i64 y) := p1
          have j0 : (0 : Int) ≤ (j : Int) := by omega
          have j1 : (j : Int) < (n : Int) + 1 := by omega
          have j2 : ¬ n + 1 ≤ j := by omega
          have hb1w : b1 < wr.heap.size := by omega
          have hb2w : b2 < wr.heap.size := by omega
          have hne := neqA x y
          have HB5 := Lib.hid (HBEL.out.trans (((Below.refl wr.heap.size wr).alloc (Nat.le_refl _) (.cells #[.int .i64 x, .int .i64 y] 40)).mono hsz))
          go_wp2
          go_quiet (fail)
          go_wp2
          go_roundw
          case rel => exact ⟨j + 1, by omega, by go_num, below_drewN HB5.out _⟩
          case measure => simp [intOf]; omega
        · obtain rfl : j = n + 1 := by omega
          have hd : decide ((n : Int) + 1 < (n : Int) + 1) = false := decide_eq_false (by omega)
          clear hFk hGk
          go_wp2
          go_ret
          exact ⟨rfl, HB6.out.trans (HBEL.out.mono hz6)⟩
end Go.Proofs.Ytpeijhlheencnaa
