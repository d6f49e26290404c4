/- The law MachTail: its walk. -/
import Derived.Test.YtddadlomkodgcaaMtA
import Derived.Deep.QuietTactic
import Derived.BigQuiet
namespace Go.Proofs.Ytddadlomkodgcaa
open Go.RowKit
set_option maxRecDepth 100000
set_option linter.unusedVariables false

structure MtS (w : World) (b bw n : Nat) (wr : World) (i k : Nat) (ws : List Nat) (l : List AccV) : Prop where
  m : MachS wr b bw n ws 0 k (accCs l)
  ll : l.length = 64
  ki : k ≤ i
  bel : Below w.heap.size w wr
  hb : w.heap.size ≤ b
  hbw : w.heap.size ≤ bw
section
variable {w wr w' : World} {b bw n i k : Nat} {ws : List Nat} {l : List AccV}
theorem MtS.alloc (h : MtS w b bw n wr i k ws l) (o : Obj) : MtS w b bw n (wr.alloc o) i k ws l := ⟨h.m.alloc o, h.ll, h.ki, h.bel.alloc h.bel.size o, h.hb, h.hbw⟩
theorem MtS.next (h : MtS w b bw n wr i k ws l) : MtS w b bw n wr (i + 1) k ws l := ⟨h.m, h.ll, Nat.le_succ_of_le h.ki, h.bel, h.hb, h.hbw⟩
def MtN (w : World) (b bw n i : Nat) (w' : World) : Prop := ∃ k ws l, MtS w b bw n w' (i + 1) k ws l
theorem MtS.acc (h : MtS w b bw n wr i k ws l) {ws' : List Nat} {a : AccV} (hm : MachS w' b bw n ws' 0 (k + 1) (put6 (accCs l) (k % 64) a)) (hf : Off [b, bw] wr w') : MtN w b bw n i w' := by
  rw [accCs_put _ _ _ (by rw [h.ll]; exact Nat.mod_lt _ (by omega))] at hm
  exact ⟨k + 1, ws', _, hm, by simp [h.ll], by have := h.ki; omega, hf.up2 h.bel (by intro x hx; simp at hx; have := h.hb; have := h.hbw; omega), h.hb, h.hbw⟩
theorem mt_load (h : MtS w b bw n wr i k ws l) (hi : i < 100000) (who word : Int) :
    Calls Try.prog 16 #[.pointer (some ⟨b, 0, none⟩), .int .i64 who, .int .i64 word] wr fun e w' => (∃ x y, e = .returned (.tuple #[.int .u64 x, .int .i64 y])) ∧ MtN w b bw n i w' := by
  have hki := h.ki
  rcases hb : (inB who 64 && inB word n) with _ | _
  · exact (load_bad wr b bw n ws 0 k _ h.m who word hb).mono fun e w' ⟨h1, h2⟩ => by subst h2; exact ⟨⟨_, _, h1⟩, k, ws, l, h.next⟩
  · simp only [Bool.and_eq_true] at hb
    have hw := inB_iff.mp hb.2
    obtain ⟨j, rfl⟩ := Int.eq_ofNat_of_zero_le hw.1
    exact (load_ok wr b bw n ws 0 k _ h.m (by omega) who j hb.1 (by omega)).mono fun e w' ⟨h1, h2, h3⟩ => ⟨⟨_, _, h1⟩, h.acc h2 (h3.mono (by simp))⟩
theorem mt_swap (h : MtS w b bw n wr i k ws l) (hi : i < 100000) (who word : Int) (old new : Nat) :
    Calls Try.prog 17 #[.pointer (some ⟨b, 0, none⟩), .int .i64 who, .int .i64 word, .int .u64 (old : Int), .int .u64 (new : Int)] wr fun e w' => (∃ x y, e = .returned (.tuple #[.bool x, .int .i64 y])) ∧ MtN w b bw n i w' := by
  have hki := h.ki
  rcases hb : (inB who 64 && inB word n) with _ | _
  · exact (swap_bad wr b bw n ws 0 k _ h.m who word old new hb).mono fun e w' ⟨h1, h2⟩ => by subst h2; exact ⟨⟨_, _, h1⟩, k, ws, l, h.next⟩
  · simp only [Bool.and_eq_true] at hb
    have hw := inB_iff.mp hb.2
    obtain ⟨j, rfl⟩ := Int.eq_ofNat_of_zero_le hw.1
    exact (swap_ok wr b bw n ws 0 k _ h.m (by omega) who j old new hb.1 (by omega)).mono fun e w' ⟨h1, h2, h3⟩ => ⟨⟨_, _, h1⟩, h.acc h2 h3⟩
theorem mt_clock (h : MtS w b bw n wr i k ws l) (hi : i < 100000) (who : Int) :
    Calls Try.prog 18 #[.pointer (some ⟨b, 0, none⟩), .int .i64 who] wr fun e w' => (∃ x y, e = .returned (.tuple #[.int .i64 x, .int .i64 y])) ∧ MtN w b bw n i w' := by
  have hki := h.ki
  rcases hb : inB who 64 with _ | _
  · exact (clock_bad wr _ who hb).mono fun e w' ⟨h1, h2⟩ => by subst h2; exact ⟨⟨_, _, h1⟩, k, ws, l, h.next⟩
  · exact (clock_ok wr b bw n ws 0 k _ h.m (by omega) who hb (by omega) (by omega)).mono fun e w' ⟨h1, h2, h3⟩ => ⟨⟨_, _, h1⟩, h.acc h2 (h3.mono (by simp))⟩
end
def MtInv (w : World) (b bw n m : Nat) (iv : Value) (wr : World) : Prop :=
  ∃ i k ws l, i ≤ m ∧ i ≤ 200 ∧ iv = .int .i64 ((i : Nat) : Int) ∧ MtS w b bw n wr i k ws l
theorem mcount_s (w : World) (b bw n : Nat) (ws : List Nat) (k : Nat) (r : List Value) (h : MachS w b bw n ws 0 k r) : Calls Try.prog 15 #[.pointer (some ⟨b, 0, none⟩)] w fun e w' => e = .returned (.int .i64 (k : Int)) ∧ w = w' :=
  mcount_any w b bw n ws 0 k r h
set_option maxHeartbeats 12800000 in
theorem machTail_walk (wd : Int) (A : Option Addr) (m d : Nat) (l : List OpV) (yy : Int) (w : World) (hl0 : 0 ≤ wd) (hl1 : wd ≤ 255) (h : ArgC w w.heap.size 6 A m d (FO l)) (hd : d ≤ 2932031007402) (hpk : okOps l) (hy0 : 0 ≤ yy) (hy1 : yy ≤ 255) :
    Calls Try.prog 5 #[.int .u8 wd, .slice A m d, .int .u8 yy] w (ValEnd w (.bool true)) := by
  have hle := h.le
  have HAG := Lib.hid h
  have HPK := Lib.hid hpk
  obtain ⟨n, hn⟩ : ∃ n : Nat, (n : Int) = 1 + wd % 8 := ⟨(1 + wd % 8).toNat, by omega⟩
  obtain ⟨y, hyy⟩ : ∃ y : Nat, yy % 65 = (y : Int) := ⟨(yy % 65).toNat, by omega⟩
  have hy64 : y ≤ 64 := by omega
  have hn8 : n ≤ 8 := by omega
  have hn1 : 1 ≤ n := by omega
  clear h hpk
  go_enter Try.func5, Try.ntmps5
  go_wp2_with fail
  with_reducible refine (awake11_any _).mono ?_
  rintro e w1 ⟨rfl, hB⟩
  have HB1 := Lib.hid hB
  have hs1 := hB.size
  clear hB
  have hnw := mnew_acc w1 n hn1 (by omega)
  have HN := Lib.hid hnw
  clear hnw
  go_wp2_with fail
  rw [← hn]
  clear hn
  with_reducible refine HN.out.mono ?_
  rintro e w2 ⟨b, bw, rfl, hb, hbw, hm, hB⟩
  have S0 : Hid (MtS w b bw n w2 0 0 (List.replicate n 0) (List.replicate 64 noAcc)) :=
    Lib.hid ⟨hm, by simp, Nat.le_refl _, HB1.out.trans (hB.mono hs1), by omega, by omega⟩
  clear hB hm HN HB1
  go_wp2
  go_loopw [35] (fun iv wr => MtInv w b bw n m iv wr) (fun iv _ => m - (intOf iv).toNat)
  case atStart => exact ⟨0, 0, _, _, Nat.zero_le _, by omega, rfl, S0.out⟩
  case round =>
    obtain ⟨i, k, ws, la, hi, hi3, rfl, st⟩ := hrel
    clear S0
    rcases Nat.lt_or_ge i m with hin | hin
    · obtain ⟨bb, off, eA, hbb, hcc⟩ := op_at (HAG.out.below st.bel) hin
      have hx := okOps_at HPK.out i
      subst eA
      have hbs := st.bel.size
      generalize l.getD i noOp = x at hcc hx
      have q0 := hcc 0 (by omega)
      have q1 := hcc 1 (by omega)
      have q2 := hcc 2 (by omega)
      have q3 := hcc 3 (by omega)
      have q4 := hcc 4 (by omega)
      have q5 := hcc 5 (by omega)
      clear hcc
      obtain ⟨xk, xwho, xword, xold, xnew, xn⟩ := x
      simp only [OpV.cells, List.getElem?_cons_zero, List.getElem?_cons_succ, Nat.add_zero] at q0 q1 q2 q3 q4 q5
      have hold := hx.old0
      have hnew := hx.new0
      have hkd := hx.k0
      simp only at hold hnew hkd
      obtain ⟨ol, rfl⟩ := Int.eq_ofNat_of_zero_le hold
      obtain ⟨nw, rfl⟩ := Int.eq_ofNat_of_zero_le hnew
      clear hx
      have j0 : (0 : Int) ≤ (i : Int) := by omega
      have j1 : (i : Int) < (m : Int) := by omega
      have hbb2 : bb < wr.heap.size := by omega
      have st1 := st.alloc (.cells #[.int .u8 xk, .int .i64 xwho, .int .i64 xword, .int .u64 (ol : Int), .int .u64 (nw : Int), .int .i64 xn] 33)
      have ST1 := Lib.hid st1
      rcases Nat.lt_or_ge i 200 with h3 | h3
      · have h3' : ¬ (200 : Int) ≤ (i : Int) := by omega
        have HL := Lib.hid (mt_load st1 (by omega) xwho xword)
        have HSW := Lib.hid (mt_swap st1 (by omega) xwho xword ol nw)
        have HCL := Lib.hid (mt_clock st1 (by omega) xwho)
        clear st st1
        have hk3 : xk % 3 = 0 ∨ xk % 3 = 1 ∨ xk % 3 = 2 := by omega
        rcases hk3 with hk3 | hk3 | hk3
        · go_wp2_with fail
          with_reducible refine HL.out.mono ?_
          rintro e w4 ⟨⟨x, y2, rfl⟩, k', ws', l', st4⟩
          have ST4 := Lib.hid st4
          clear st4
          go_wp2
          go_roundw
          case rel => exact ⟨i + 1, k', ws', l', by omega, by omega, by go_num, ST4.out⟩
          case measure => simp [intOf]; omega
        · go_wp2_with fail
          with_reducible refine HSW.out.mono ?_
          rintro e w4 ⟨⟨x, y2, rfl⟩, k', ws', l', st4⟩
          have ST4 := Lib.hid st4
          clear st4
          go_wp2
          go_roundw
          case rel => exact ⟨i + 1, k', ws', l', by omega, by omega, by go_num, ST4.out⟩
          case measure => simp [intOf]; omega
        · go_wp2_with fail
          with_reducible refine HCL.out.mono ?_
          rintro e w4 ⟨⟨x, y2, rfl⟩, k', ws', l', st4⟩
          have ST4 := Lib.hid st4
          clear st4
          go_wp2
          go_roundw
          case rel => exact ⟨i + 1, k', ws', l', by omega, by omega, by go_num, ST4.out⟩
          case measure => simp [intOf]; omega
      · have h3' : (200 : Int) ≤ (i : Int) := by omega
        clear st st1
        have ST := ST1
        have hki := ST.out.ki
        have hkb : k < 9223372036854775807 := by omega
        have h64 := last_ok (wr.alloc (.cells #[.int .u8 xk, .int .i64 xwho, .int .i64 xword, .int .u64 (ol : Int), .int .u64 (nw : Int), .int .i64 xn] 33)) b bw n ws 0 k la ST.out.m ST.out.ll hkb 64 (by omega)
        rw [show ((64 : Nat) : Int) = 64 from rfl] at h64
        have h64 := Lib.hid h64
        rcases Nat.lt_or_ge 64 k with hk64 | hk64
        · have hc64 : (64 : Int) < (k : Int) := by omega
          obtain ⟨m1, hm1⟩ : ∃ m1, m1 = min 64 k := ⟨_, rfl⟩
          have hm1c : (m1 : Int) = 64 := by omega
          rcases Nat.lt_or_ge y m1 with hym | hym
          · have HL1 := Lib.hid (h64.out m1 hm1)
            clear hm1
            go_wp2_with fail
            with_reducible refine HL1.out.mono ?_
            rintro e w5 ⟨A1, c1, rfl, ho1, hb1⟩
            clear q0 q1 q2 q3 q4 q5
            have hb1s := hb1.size
            have hl2 := last_ok w5 b bw n ws 0 k la (ST.out.m.off (S := []) (Off.of_below hb1) (by simp) (by simp)) ST.out.ll hkb y hy64 y (by omega)
            skip
            have HL2 := Lib.hid hl2
            clear hl2
            have HO1 := Lib.hid ho1
            have HB1 := Lib.hid (ST.out.bel.trans (hb1.mono ST.out.bel.size))
            have HBT := Lib.hid hb1
            clear ho1 hb1
            go_wp2_with fail
            with_reducible refine HL2.out.mono ?_
            rintro e w6 ⟨A2, c2, rfl, ho2, hb2⟩
            have HO2 := Lib.hid ho2
            have HO1b := Lib.hid (HO1.out.below hb2)
            have HB2 := Lib.hid (HB1.out.trans (hb2.mono HB1.out.size))
            have HC := Lib.hid (mcount_s w6 b bw n ws k _ (ST.out.m.off (S := []) ((Off.of_below HBT.out).trans (Off.of_below hb2)) (by simp) (by simp)))
            clear ho2 hb2 HO1 HB1 HBT HL1 HL2
            have fy : (y : Int) < 64 := by omega
            go_wp2_with fail
            with_reducible refine HC.out.mono ?_
            rintro e w7 ⟨rfl, hw⟩
            subst hw
            go_wp2
            go_loopw [112] (fun iv wx => ∃ t : Nat, t ≤ y ∧ iv = .int .i64 ((t : Nat) : Int) ∧ Below w6.heap.size w6 wx) (fun iv _ => y - (intOf iv).toNat)
            case atStart => exact ⟨0, Nat.zero_le _, rfl, Below.refl _ _⟩
            case round =>
              obtain ⟨t, ht, rfl, hbx⟩ := hrel
              have hbxs := hbx.size
              rcases Nat.lt_or_ge t y with htm | htm
              · obtain ⟨p, hp⟩ : ∃ p, p = m1 - y + t := ⟨_, rfl⟩
                have hp2 : (64 : Int) - (y : Int) + (t : Int) = (p : Int) := by omega
                have hpm : p < m1 := by omega
                obtain ⟨g2, o2, e2, hg2, hc2⟩ := (HO2.out.arg.below hbx).at_ (by omega)
                obtain ⟨g1, o1, e1, hg1, hc1⟩ := (HO1b.out.arg.below hbx).at_ (by omega)
                subst e2
                subst e1
                have f2 := fun j (hj : j < 6) => (hc2 (t * 6 + j) (by omega)).trans (accCs_at _ t j (by rw [lastL_len]; exact htm) hj)
                have f1 := fun j (hj : j < 6) => (hc1 (p * 6 + j) (by omega)).trans (accCs_at _ p j (by rw [lastL_len]; exact hpm) hj)
                rw [lastL_at _ _ _ _ _ htm] at f2
                rw [lastL_at _ _ _ _ _ hpm, show k - m1 + p = k - y + t by omega] at f1
                generalize la.getD ((k - y + t) % 64) noAcc = a at f1 f2
                obtain ⟨a0, a1, a2, a3, a4, a5⟩ := a
                have r0 := f2 0 (by omega)
                have r1 := f2 1 (by omega)
                have r2 := f2 2 (by omega)
                have r3 := f2 3 (by omega)
                have r4 := f2 4 (by omega)
                have r5 := f2 5 (by omega)
                have s0 := f1 0 (by omega)
                have s1 := f1 1 (by omega)
                have s2 := f1 2 (by omega)
                have s3 := f1 3 (by omega)
                have s4 := f1 4 (by omega)
                have s5 := f1 5 (by omega)
                simp only [AccV.cells, List.getElem?_cons_zero, List.getElem?_cons_succ, Nat.add_zero, ← Nat.add_assoc] at r0 r1 r2 r3 r4 r5 s0 s1 s2 s3 s4 s5
                have u0 : (0 : Int) ≤ (t : Int) := by omega
                have u1 : (t : Int) < (y : Int) := by omega
                have v0 : (0 : Int) ≤ (p : Int) := by omega
                have v1 : (p : Int) < 64 := by omega
                have l1 : g1 < wr.heap.size := by omega
                have l2 : g2 < wr.heap.size := by omega
                have HBX := Lib.hid (hbx.alloc hbxs (.cells #[.int .i64 a0, .int .u8 a1, .int .i64 a2, .int .u64 a3, .int .u64 a4, .bool a5] 57))
                clear f1 f2 hc1 hc2 hbx
                have HP := Lib.hid hp
                clear hp
                go_wp2_with fail
                go_quiet (fail)
                have HBY : Hid (Below w6.heap.size w6 ((wr.alloc (.cells #[.int .i64 a0, .int .u8 a1, .int .i64 a2, .int .u64 a3, .int .u64 a4, .bool a5] 57)).drewN nq)) := Lib.hid ⟨HBX.out.os, HBX.out.tape, HBX.out.output, HBX.out.size, HBX.out.block⟩
                go_wp2
                go_roundw
                case rel => exact ⟨t + 1, by omega, by go_num, HBY.out⟩
                case measure => simp [intOf]; omega
              · have u1 : ¬ (t : Int) < (y : Int) := by omega
                have HBX := Lib.hid hbx
                clear hbx
                go_wp2
                go_ret
                exact ⟨rfl, HB2.out.trans (HBX.out.mono HB2.out.size)⟩
          · obtain rfl : y = m1 := by omega
            have HL1 := Lib.hid (h64.out y hm1)
            clear hm1
            go_wp2_with fail
            with_reducible refine HL1.out.mono ?_
            rintro e w5 ⟨A1, c1, rfl, ho1, hb1⟩
            clear q0 q1 q2 q3 q4 q5
            have hb1s := hb1.size
            have hl2 := last_ok w5 b bw n ws 0 k la (ST.out.m.off (S := []) (Off.of_below hb1) (by simp) (by simp)) ST.out.ll hkb y hy64 y (by omega)
            rw [hm1c] at hl2
            have HL2 := Lib.hid hl2
            clear hl2
            have HO1 := Lib.hid ho1
            have HB1 := Lib.hid (ST.out.bel.trans (hb1.mono ST.out.bel.size))
            have HBT := Lib.hid hb1
            clear ho1 hb1
            go_wp2_with fail
            with_reducible refine HL2.out.mono ?_
            rintro e w6 ⟨A2, c2, rfl, ho2, hb2⟩
            have HO2 := Lib.hid ho2
            have HO1b := Lib.hid (HO1.out.below hb2)
            have HB2 := Lib.hid (HB1.out.trans (hb2.mono HB1.out.size))
            have HC := Lib.hid (mcount_s w6 b bw n ws k _ (ST.out.m.off (S := []) ((Off.of_below HBT.out).trans (Off.of_below hb2)) (by simp) (by simp)))
            clear ho2 hb2 HO1 HB1 HBT HL1 HL2
            skip
            go_wp2_with fail
            with_reducible refine HC.out.mono ?_
            rintro e w7 ⟨rfl, hw⟩
            subst hw
            go_wp2
            go_loopw [112] (fun iv wx => ∃ t : Nat, t ≤ y ∧ iv = .int .i64 ((t : Nat) : Int) ∧ Below w6.heap.size w6 wx) (fun iv _ => y - (intOf iv).toNat)
            case atStart => exact ⟨0, Nat.zero_le _, rfl, Below.refl _ _⟩
            case round =>
              obtain ⟨t, ht, rfl, hbx⟩ := hrel
              have hbxs := hbx.size
              rcases Nat.lt_or_ge t y with htm | htm
              · obtain ⟨p, hp⟩ : ∃ p, p = y - y + t := ⟨_, rfl⟩
                have hp2 : (t : Int) = (p : Int) := by omega
                have hpm : p < y := by omega
                obtain ⟨g2, o2, e2, hg2, hc2⟩ := (HO2.out.arg.below hbx).at_ (by omega)
                obtain ⟨g1, o1, e1, hg1, hc1⟩ := (HO1b.out.arg.below hbx).at_ (by omega)
                subst e2
                subst e1
                have f2 := fun j (hj : j < 6) => (hc2 (t * 6 + j) (by omega)).trans (accCs_at _ t j (by rw [lastL_len]; exact htm) hj)
                have f1 := fun j (hj : j < 6) => (hc1 (p * 6 + j) (by omega)).trans (accCs_at _ p j (by rw [lastL_len]; exact hpm) hj)
                rw [lastL_at _ _ _ _ _ htm] at f2
                rw [lastL_at _ _ _ _ _ hpm, show k - y + p = k - y + t by omega] at f1
                generalize la.getD ((k - y + t) % 64) noAcc = a at f1 f2
                obtain ⟨a0, a1, a2, a3, a4, a5⟩ := a
                have r0 := f2 0 (by omega)
                have r1 := f2 1 (by omega)
                have r2 := f2 2 (by omega)
                have r3 := f2 3 (by omega)
                have r4 := f2 4 (by omega)
                have r5 := f2 5 (by omega)
                have s0 := f1 0 (by omega)
                have s1 := f1 1 (by omega)
                have s2 := f1 2 (by omega)
                have s3 := f1 3 (by omega)
                have s4 := f1 4 (by omega)
                have s5 := f1 5 (by omega)
                simp only [AccV.cells, List.getElem?_cons_zero, List.getElem?_cons_succ, Nat.add_zero, ← Nat.add_assoc] at r0 r1 r2 r3 r4 r5 s0 s1 s2 s3 s4 s5
                have u0 : (0 : Int) ≤ (t : Int) := by omega
                have u1 : (t : Int) < 64 := by omega
                have v0 : (0 : Int) ≤ (p : Int) := by omega
                have v1 : (p : Int) < 64 := by omega
                have l1 : g1 < wr.heap.size := by omega
                have l2 : g2 < wr.heap.size := by omega
                have HBX := Lib.hid (hbx.alloc hbxs (.cells #[.int .i64 a0, .int .u8 a1, .int .i64 a2, .int .u64 a3, .int .u64 a4, .bool a5] 57))
                clear f1 f2 hc1 hc2 hbx
                obtain rfl : t = p := by omega
                clear hp hp2
                go_wp2_with fail
                go_quiet (fail)
                have HBY : Hid (Below w6.heap.size w6 ((wr.alloc (.cells #[.int .i64 a0, .int .u8 a1, .int .i64 a2, .int .u64 a3, .int .u64 a4, .bool a5] 57)).drewN nq)) := Lib.hid ⟨HBX.out.os, HBX.out.tape, HBX.out.output, HBX.out.size, HBX.out.block⟩
                go_wp2
                go_roundw
                case rel => exact ⟨t + 1, by omega, by go_num, HBY.out⟩
                case measure => simp [intOf]; omega
              · have u1 : ¬ (t : Int) < 64 := by omega
                have HBX := Lib.hid hbx
                clear hbx
                go_wp2
                go_ret
                exact ⟨rfl, HB2.out.trans (HBX.out.mono HB2.out.size)⟩
        · have hc64 : ¬ (64 : Int) < (k : Int) := by omega
          obtain ⟨m1, hm1⟩ : ∃ m1, m1 = min 64 k := ⟨_, rfl⟩
          obtain rfl : m1 = k := by omega
          rcases Nat.lt_or_ge y m1 with hym | hym
          · have HL1 := Lib.hid (h64.out m1 hm1)
            clear hm1
            go_wp2_with fail
            with_reducible refine HL1.out.mono ?_
            rintro e w5 ⟨A1, c1, rfl, ho1, hb1⟩
            clear q0 q1 q2 q3 q4 q5
            have hb1s := hb1.size
            have hl2 := last_ok w5 b bw n ws 0 m1 la (ST.out.m.off (S := []) (Off.of_below hb1) (by simp) (by simp)) ST.out.ll hkb y hy64 y (by omega)
            skip
            have HL2 := Lib.hid hl2
            clear hl2
            have HO1 := Lib.hid ho1
            have HB1 := Lib.hid (ST.out.bel.trans (hb1.mono ST.out.bel.size))
            have HBT := Lib.hid hb1
            clear ho1 hb1
            go_wp2_with fail
            with_reducible refine HL2.out.mono ?_
            rintro e w6 ⟨A2, c2, rfl, ho2, hb2⟩
            have HO2 := Lib.hid ho2
            have HO1b := Lib.hid (HO1.out.below hb2)
            have HB2 := Lib.hid (HB1.out.trans (hb2.mono HB1.out.size))
            have HC := Lib.hid (mcount_s w6 b bw n ws m1 _ (ST.out.m.off (S := []) ((Off.of_below HBT.out).trans (Off.of_below hb2)) (by simp) (by simp)))
            clear ho2 hb2 HO1 HB1 HBT HL1 HL2
            have fy : (y : Int) < (m1 : Int) := by omega
            have fy2 : y < m1 := hym
            go_wp2_with fail
            with_reducible refine HC.out.mono ?_
            rintro e w7 ⟨rfl, hw⟩
            subst hw
            go_wp2
            go_loopw [112] (fun iv wx => ∃ t : Nat, t ≤ y ∧ iv = .int .i64 ((t : Nat) : Int) ∧ Below w6.heap.size w6 wx) (fun iv _ => y - (intOf iv).toNat)
            case atStart => exact ⟨0, Nat.zero_le _, rfl, Below.refl _ _⟩
            case round =>
              obtain ⟨t, ht, rfl, hbx⟩ := hrel
              have hbxs := hbx.size
              rcases Nat.lt_or_ge t y with htm | htm
              · obtain ⟨p, hp⟩ : ∃ p, p = m1 - y + t := ⟨_, rfl⟩
                have hp2 : (m1 : Int) - (y : Int) + (t : Int) = (p : Int) := by omega
                have hpm : p < m1 := by omega
                obtain ⟨g2, o2, e2, hg2, hc2⟩ := (HO2.out.arg.below hbx).at_ (by omega)
                obtain ⟨g1, o1, e1, hg1, hc1⟩ := (HO1b.out.arg.below hbx).at_ (by omega)
                subst e2
                subst e1
                have f2 := fun j (hj : j < 6) => (hc2 (t * 6 + j) (by omega)).trans (accCs_at _ t j (by rw [lastL_len]; exact htm) hj)
                have f1 := fun j (hj : j < 6) => (hc1 (p * 6 + j) (by omega)).trans (accCs_at _ p j (by rw [lastL_len]; exact hpm) hj)
                rw [lastL_at _ _ _ _ _ htm] at f2
                rw [lastL_at _ _ _ _ _ hpm, show m1 - m1 + p = m1 - y + t by omega] at f1
                generalize la.getD ((m1 - y + t) % 64) noAcc = a at f1 f2
                obtain ⟨a0, a1, a2, a3, a4, a5⟩ := a
                have r0 := f2 0 (by omega)
                have r1 := f2 1 (by omega)
                have r2 := f2 2 (by omega)
                have r3 := f2 3 (by omega)
                have r4 := f2 4 (by omega)
                have r5 := f2 5 (by omega)
                have s0 := f1 0 (by omega)
                have s1 := f1 1 (by omega)
                have s2 := f1 2 (by omega)
                have s3 := f1 3 (by omega)
                have s4 := f1 4 (by omega)
                have s5 := f1 5 (by omega)
                simp only [AccV.cells, List.getElem?_cons_zero, List.getElem?_cons_succ, Nat.add_zero, ← Nat.add_assoc] at r0 r1 r2 r3 r4 r5 s0 s1 s2 s3 s4 s5
                have u0 : (0 : Int) ≤ (t : Int) := by omega
                have u1 : (t : Int) < (y : Int) := by omega
                have v0 : (0 : Int) ≤ (p : Int) := by omega
                have v1 : (p : Int) < (m1 : Int) := by omega
                have l1 : g1 < wr.heap.size := by omega
                have l2 : g2 < wr.heap.size := by omega
                have HBX := Lib.hid (hbx.alloc hbxs (.cells #[.int .i64 a0, .int .u8 a1, .int .i64 a2, .int .u64 a3, .int .u64 a4, .bool a5] 57))
                clear f1 f2 hc1 hc2 hbx
                have HP := Lib.hid hp
                clear hp
                go_wp2_with fail
                go_quiet (fail)
                have HBY : Hid (Below w6.heap.size w6 ((wr.alloc (.cells #[.int .i64 a0, .int .u8 a1, .int .i64 a2, .int .u64 a3, .int .u64 a4, .bool a5] 57)).drewN nq)) := Lib.hid ⟨HBX.out.os, HBX.out.tape, HBX.out.output, HBX.out.size, HBX.out.block⟩
                go_wp2
                go_roundw
                case rel => exact ⟨t + 1, by omega, by go_num, HBY.out⟩
                case measure => simp [intOf]; omega
              · have u1 : ¬ (t : Int) < (y : Int) := by omega
                have HBX := Lib.hid hbx
                clear hbx
                go_wp2
                go_ret
                exact ⟨rfl, HB2.out.trans (HBX.out.mono HB2.out.size)⟩
          · have HL1 := Lib.hid (h64.out m1 hm1)
            clear hm1
            go_wp2_with fail
            with_reducible refine HL1.out.mono ?_
            rintro e w5 ⟨A1, c1, rfl, ho1, hb1⟩
            clear q0 q1 q2 q3 q4 q5
            have hb1s := hb1.size
            have hl2 := last_ok w5 b bw n ws 0 m1 la (ST.out.m.off (S := []) (Off.of_below hb1) (by simp) (by simp)) ST.out.ll hkb y hy64 m1 (by omega)
            skip
            have HL2 := Lib.hid hl2
            clear hl2
            have HO1 := Lib.hid ho1
            have HB1 := Lib.hid (ST.out.bel.trans (hb1.mono ST.out.bel.size))
            have HBT := Lib.hid hb1
            clear ho1 hb1
            go_wp2_with fail
            with_reducible refine HL2.out.mono ?_
            rintro e w6 ⟨A2, c2, rfl, ho2, hb2⟩
            have HO2 := Lib.hid ho2
            have HO1b := Lib.hid (HO1.out.below hb2)
            have HB2 := Lib.hid (HB1.out.trans (hb2.mono HB1.out.size))
            have HC := Lib.hid (mcount_s w6 b bw n ws m1 _ (ST.out.m.off (S := []) ((Off.of_below HBT.out).trans (Off.of_below hb2)) (by simp) (by simp)))
            clear ho2 hb2 HO1 HB1 HBT HL1 HL2
            have fy : ¬ (y : Int) < (m1 : Int) := by omega
            have fy2 : ¬ y < m1 := by omega
            go_wp2_with fail
            with_reducible refine HC.out.mono ?_
            rintro e w7 ⟨rfl, hw⟩
            subst hw
            go_wp2
            go_loopw [112] (fun iv wx => ∃ t : Nat, t ≤ m1 ∧ iv = .int .i64 ((t : Nat) : Int) ∧ Below w6.heap.size w6 wx) (fun iv _ => m1 - (intOf iv).toNat)
            case atStart => exact ⟨0, Nat.zero_le _, rfl, Below.refl _ _⟩
            case round =>
              obtain ⟨t, ht, rfl, hbx⟩ := hrel
              have hbxs := hbx.size
              rcases Nat.lt_or_ge t m1 with htm | htm
              · obtain ⟨p, hp⟩ : ∃ p, p = m1 - m1 + t := ⟨_, rfl⟩
                have hp2 : (t : Int) = (p : Int) := by omega
                have hpm : p < m1 := by omega
                obtain ⟨g2, o2, e2, hg2, hc2⟩ := (HO2.out.arg.below hbx).at_ (by omega)
                obtain ⟨g1, o1, e1, hg1, hc1⟩ := (HO1b.out.arg.below hbx).at_ (by omega)
                subst e2
                subst e1
                have f2 := fun j (hj : j < 6) => (hc2 (t * 6 + j) (by omega)).trans (accCs_at _ t j (by rw [lastL_len]; exact htm) hj)
                have f1 := fun j (hj : j < 6) => (hc1 (p * 6 + j) (by omega)).trans (accCs_at _ p j (by rw [lastL_len]; exact hpm) hj)
                rw [lastL_at _ _ _ _ _ htm] at f2
                rw [lastL_at _ _ _ _ _ hpm, show m1 - m1 + p = m1 - m1 + t by omega] at f1
                generalize la.getD ((m1 - m1 + t) % 64) noAcc = a at f1 f2
                obtain ⟨a0, a1, a2, a3, a4, a5⟩ := a
                have r0 := f2 0 (by omega)
                have r1 := f2 1 (by omega)
                have r2 := f2 2 (by omega)
                have r3 := f2 3 (by omega)
                have r4 := f2 4 (by omega)
                have r5 := f2 5 (by omega)
                have s0 := f1 0 (by omega)
                have s1 := f1 1 (by omega)
                have s2 := f1 2 (by omega)
                have s3 := f1 3 (by omega)
                have s4 := f1 4 (by omega)
                have s5 := f1 5 (by omega)
                simp only [AccV.cells, List.getElem?_cons_zero, List.getElem?_cons_succ, Nat.add_zero, ← Nat.add_assoc] at r0 r1 r2 r3 r4 r5 s0 s1 s2 s3 s4 s5
                have u0 : (0 : Int) ≤ (t : Int) := by omega
                have u1 : (t : Int) < (m1 : Int) := by omega
                have v0 : (0 : Int) ≤ (p : Int) := by omega
                have v1 : (p : Int) < (m1 : Int) := by omega
                have l1 : g1 < wr.heap.size := by omega
                have l2 : g2 < wr.heap.size := by omega
                have HBX := Lib.hid (hbx.alloc hbxs (.cells #[.int .i64 a0, .int .u8 a1, .int .i64 a2, .int .u64 a3, .int .u64 a4, .bool a5] 57))
                clear f1 f2 hc1 hc2 hbx
                obtain rfl : t = p := by omega
                clear hp hp2
                go_wp2_with fail
                go_quiet (fail)
                have HBY : Hid (Below w6.heap.size w6 ((wr.alloc (.cells #[.int .i64 a0, .int .u8 a1, .int .i64 a2, .int .u64 a3, .int .u64 a4, .bool a5] 57)).drewN nq)) := Lib.hid ⟨HBX.out.os, HBX.out.tape, HBX.out.output, HBX.out.size, HBX.out.block⟩
                go_wp2
                go_roundw
                case rel => exact ⟨t + 1, by omega, by go_num, HBY.out⟩
                case measure => simp [intOf]; omega
              · have u1 : ¬ (t : Int) < (m1 : Int) := by omega
                have HBX := Lib.hid hbx
                clear hbx
                go_wp2
                go_ret
                exact ⟨rfl, HB2.out.trans (HBX.out.mono HB2.out.size)⟩
    · obtain rfl : i = m := by omega
      have j1 : ¬ (i : Int) < (i : Int) := by omega
      have ST := Lib.hid st
      clear st
      have hki := ST.out.ki
      have hkb : k < 9223372036854775807 := by omega
      have h64 := last_ok wr b bw n ws 0 k la ST.out.m ST.out.ll hkb 64 (by omega)
      rw [show ((64 : Nat) : Int) = 64 from rfl] at h64
      have h64 := Lib.hid h64
      rcases Nat.lt_or_ge 64 k with hk64 | hk64
      · have hc64 : (64 : Int) < (k : Int) := by omega
        obtain ⟨m1, hm1⟩ : ∃ m1, m1 = min 64 k := ⟨_, rfl⟩
        have hm1c : (m1 : Int) = 64 := by omega
        rcases Nat.lt_or_ge y m1 with hym | hym
        · have HL1 := Lib.hid (h64.out m1 hm1)
          clear hm1
          go_wp2_with fail
          with_reducible refine HL1.out.mono ?_
          rintro e w5 ⟨A1, c1, rfl, ho1, hb1⟩
          skip
          have hb1s := hb1.size
          have hl2 := last_ok w5 b bw n ws 0 k la (ST.out.m.off (S := []) (Off.of_below hb1) (by simp) (by simp)) ST.out.ll hkb y hy64 y (by omega)
          skip
          have HL2 := Lib.hid hl2
          clear hl2
          have HO1 := Lib.hid ho1
          have HB1 := Lib.hid (ST.out.bel.trans (hb1.mono ST.out.bel.size))
          have HBT := Lib.hid hb1
          clear ho1 hb1
          go_wp2_with fail
          with_reducible refine HL2.out.mono ?_
          rintro e w6 ⟨A2, c2, rfl, ho2, hb2⟩
          have HO2 := Lib.hid ho2
          have HO1b := Lib.hid (HO1.out.below hb2)
          have HB2 := Lib.hid (HB1.out.trans (hb2.mono HB1.out.size))
          have HC := Lib.hid (mcount_s w6 b bw n ws k _ (ST.out.m.off (S := []) ((Off.of_below HBT.out).trans (Off.of_below hb2)) (by simp) (by simp)))
          clear ho2 hb2 HO1 HB1 HBT HL1 HL2
          have fy : (y : Int) < 64 := by omega
          go_wp2_with fail
          with_reducible refine HC.out.mono ?_
          rintro e w7 ⟨rfl, hw⟩
          subst hw
          go_wp2
          go_loopw [112] (fun iv wx => ∃ t : Nat, t ≤ y ∧ iv = .int .i64 ((t : Nat) : Int) ∧ Below w6.heap.size w6 wx) (fun iv _ => y - (intOf iv).toNat)
          case atStart => exact ⟨0, Nat.zero_le _, rfl, Below.refl _ _⟩
          case round =>
            obtain ⟨t, ht, rfl, hbx⟩ := hrel
            have hbxs := hbx.size
            rcases Nat.lt_or_ge t y with htm | htm
            · obtain ⟨p, hp⟩ : ∃ p, p = m1 - y + t := ⟨_, rfl⟩
              have hp2 : (64 : Int) - (y : Int) + (t : Int) = (p : Int) := by omega
              have hpm : p < m1 := by omega
              obtain ⟨g2, o2, e2, hg2, hc2⟩ := (HO2.out.arg.below hbx).at_ (by omega)
              obtain ⟨g1, o1, e1, hg1, hc1⟩ := (HO1b.out.arg.below hbx).at_ (by omega)
              subst e2
              subst e1
              have f2 := fun j (hj : j < 6) => (hc2 (t * 6 + j) (by omega)).trans (accCs_at _ t j (by rw [lastL_len]; exact htm) hj)
              have f1 := fun j (hj : j < 6) => (hc1 (p * 6 + j) (by omega)).trans (accCs_at _ p j (by rw [lastL_len]; exact hpm) hj)
              rw [lastL_at _ _ _ _ _ htm] at f2
              rw [lastL_at _ _ _ _ _ hpm, show k - m1 + p = k - y + t by omega] at f1
              generalize la.getD ((k - y + t) % 64) noAcc = a at f1 f2
              obtain ⟨a0, a1, a2, a3, a4, a5⟩ := a
              have r0 := f2 0 (by omega)
              have r1 := f2 1 (by omega)
              have r2 := f2 2 (by omega)
              have r3 := f2 3 (by omega)
              have r4 := f2 4 (by omega)
              have r5 := f2 5 (by omega)
              have s0 := f1 0 (by omega)
              have s1 := f1 1 (by omega)
              have s2 := f1 2 (by omega)
              have s3 := f1 3 (by omega)
              have s4 := f1 4 (by omega)
              have s5 := f1 5 (by omega)
              simp only [AccV.cells, List.getElem?_cons_zero, List.getElem?_cons_succ, Nat.add_zero, ← Nat.add_assoc] at r0 r1 r2 r3 r4 r5 s0 s1 s2 s3 s4 s5
              have u0 : (0 : Int) ≤ (t : Int) := by omega
              have u1 : (t : Int) < (y : Int) := by omega
              have v0 : (0 : Int) ≤ (p : Int) := by omega
              have v1 : (p : Int) < 64 := by omega
              have l1 : g1 < wr.heap.size := by omega
              have l2 : g2 < wr.heap.size := by omega
              have HBX := Lib.hid (hbx.alloc hbxs (.cells #[.int .i64 a0, .int .u8 a1, .int .i64 a2, .int .u64 a3, .int .u64 a4, .bool a5] 57))
              clear f1 f2 hc1 hc2 hbx
              have HP := Lib.hid hp
              clear hp
              go_wp2_with fail
              go_quiet (fail)
              have HBY : Hid (Below w6.heap.size w6 ((wr.alloc (.cells #[.int .i64 a0, .int .u8 a1, .int .i64 a2, .int .u64 a3, .int .u64 a4, .bool a5] 57)).drewN nq)) := Lib.hid ⟨HBX.out.os, HBX.out.tape, HBX.out.output, HBX.out.size, HBX.out.block⟩
              go_wp2
              go_roundw
              case rel => exact ⟨t + 1, by omega, by go_num, HBY.out⟩
              case measure => simp [intOf]; omega
            · have u1 : ¬ (t : Int) < (y : Int) := by omega
              have HBX := Lib.hid hbx
              clear hbx
              go_wp2
              go_ret
              exact ⟨rfl, HB2.out.trans (HBX.out.mono HB2.out.size)⟩
        · obtain rfl : y = m1 := by omega
          have HL1 := Lib.hid (h64.out y hm1)
          clear hm1
          go_wp2_with fail
          with_reducible refine HL1.out.mono ?_
          rintro e w5 ⟨A1, c1, rfl, ho1, hb1⟩
          skip
          have hb1s := hb1.size
          have hl2 := last_ok w5 b bw n ws 0 k la (ST.out.m.off (S := []) (Off.of_below hb1) (by simp) (by simp)) ST.out.ll hkb y hy64 y (by omega)
          rw [hm1c] at hl2
          have HL2 := Lib.hid hl2
          clear hl2
          have HO1 := Lib.hid ho1
          have HB1 := Lib.hid (ST.out.bel.trans (hb1.mono ST.out.bel.size))
          have HBT := Lib.hid hb1
          clear ho1 hb1
          go_wp2_with fail
          with_reducible refine HL2.out.mono ?_
          rintro e w6 ⟨A2, c2, rfl, ho2, hb2⟩
          have HO2 := Lib.hid ho2
          have HO1b := Lib.hid (HO1.out.below hb2)
          have HB2 := Lib.hid (HB1.out.trans (hb2.mono HB1.out.size))
          have HC := Lib.hid (mcount_s w6 b bw n ws k _ (ST.out.m.off (S := []) ((Off.of_below HBT.out).trans (Off.of_below hb2)) (by simp) (by simp)))
          clear ho2 hb2 HO1 HB1 HBT HL1 HL2
          skip
          go_wp2_with fail
          with_reducible refine HC.out.mono ?_
          rintro e w7 ⟨rfl, hw⟩
          subst hw
          go_wp2
          go_loopw [112] (fun iv wx => ∃ t : Nat, t ≤ y ∧ iv = .int .i64 ((t : Nat) : Int) ∧ Below w6.heap.size w6 wx) (fun iv _ => y - (intOf iv).toNat)
          case atStart => exact ⟨0, Nat.zero_le _, rfl, Below.refl _ _⟩
          case round =>
            obtain ⟨t, ht, rfl, hbx⟩ := hrel
            have hbxs := hbx.size
            rcases Nat.lt_or_ge t y with htm | htm
            · obtain ⟨p, hp⟩ : ∃ p, p = y - y + t := ⟨_, rfl⟩
              have hp2 : (t : Int) = (p : Int) := by omega
              have hpm : p < y := by omega
              obtain ⟨g2, o2, e2, hg2, hc2⟩ := (HO2.out.arg.below hbx).at_ (by omega)
              obtain ⟨g1, o1, e1, hg1, hc1⟩ := (HO1b.out.arg.below hbx).at_ (by omega)
              subst e2
              subst e1
              have f2 := fun j (hj : j < 6) => (hc2 (t * 6 + j) (by omega)).trans (accCs_at _ t j (by rw [lastL_len]; exact htm) hj)
              have f1 := fun j (hj : j < 6) => (hc1 (p * 6 + j) (by omega)).trans (accCs_at _ p j (by rw [lastL_len]; exact hpm) hj)
              rw [lastL_at _ _ _ _ _ htm] at f2
              rw [lastL_at _ _ _ _ _ hpm, show k - y + p = k - y + t by omega] at f1
              generalize la.getD ((k - y + t) % 64) noAcc = a at f1 f2
              obtain ⟨a0, a1, a2, a3, a4, a5⟩ := a
              have r0 := f2 0 (by omega)
              have r1 := f2 1 (by omega)
              have r2 := f2 2 (by omega)
              have r3 := f2 3 (by omega)
              have r4 := f2 4 (by omega)
              have r5 := f2 5 (by omega)
              have s0 := f1 0 (by omega)
              have s1 := f1 1 (by omega)
              have s2 := f1 2 (by omega)
              have s3 := f1 3 (by omega)
              have s4 := f1 4 (by omega)
              have s5 := f1 5 (by omega)
              simp only [AccV.cells, List.getElem?_cons_zero, List.getElem?_cons_succ, Nat.add_zero, ← Nat.add_assoc] at r0 r1 r2 r3 r4 r5 s0 s1 s2 s3 s4 s5
              have u0 : (0 : Int) ≤ (t : Int) := by omega
              have u1 : (t : Int) < 64 := by omega
              have v0 : (0 : Int) ≤ (p : Int) := by omega
              have v1 : (p : Int) < 64 := by omega
              have l1 : g1 < wr.heap.size := by omega
              have l2 : g2 < wr.heap.size := by omega
              have HBX := Lib.hid (hbx.alloc hbxs (.cells #[.int .i64 a0, .int .u8 a1, .int .i64 a2, .int .u64 a3, .int .u64 a4, .bool a5] 57))
              clear f1 f2 hc1 hc2 hbx
              obtain rfl : t = p := by omega
              clear hp hp2
              go_wp2_with fail
              go_quiet (fail)
              have HBY : Hid (Below w6.heap.size w6 ((wr.alloc (.cells #[.int .i64 a0, .int .u8 a1, .int .i64 a2, .int .u64 a3, .int .u64 a4, .bool a5] 57)).drewN nq)) := Lib.hid ⟨HBX.out.os, HBX.out.tape, HBX.out.output, HBX.out.size, HBX.out.block⟩
              go_wp2
              go_roundw
              case rel => exact ⟨t + 1, by omega, by go_num, HBY.out⟩
              case measure => simp [intOf]; omega
            · have u1 : ¬ (t : Int) < 64 := by omega
              have HBX := Lib.hid hbx
              clear hbx
              go_wp2
              go_ret
              exact ⟨rfl, HB2.out.trans (HBX.out.mono HB2.out.size)⟩
      · have hc64 : ¬ (64 : Int) < (k : Int) := by omega
        obtain ⟨m1, hm1⟩ : ∃ m1, m1 = min 64 k := ⟨_, rfl⟩
        obtain rfl : m1 = k := by omega
        rcases Nat.lt_or_ge y m1 with hym | hym
        · have HL1 := Lib.hid (h64.out m1 hm1)
          clear hm1
          go_wp2_with fail
          with_reducible refine HL1.out.mono ?_
          rintro e w5 ⟨A1, c1, rfl, ho1, hb1⟩
          skip
          have hb1s := hb1.size
          have hl2 := last_ok w5 b bw n ws 0 m1 la (ST.out.m.off (S := []) (Off.of_below hb1) (by simp) (by simp)) ST.out.ll hkb y hy64 y (by omega)
          skip
          have HL2 := Lib.hid hl2
          clear hl2
          have HO1 := Lib.hid ho1
          have HB1 := Lib.hid (ST.out.bel.trans (hb1.mono ST.out.bel.size))
          have HBT := Lib.hid hb1
          clear ho1 hb1
          go_wp2_with fail
          with_reducible refine HL2.out.mono ?_
          rintro e w6 ⟨A2, c2, rfl, ho2, hb2⟩
          have HO2 := Lib.hid ho2
          have HO1b := Lib.hid (HO1.out.below hb2)
          have HB2 := Lib.hid (HB1.out.trans (hb2.mono HB1.out.size))
          have HC := Lib.hid (mcount_s w6 b bw n ws m1 _ (ST.out.m.off (S := []) ((Off.of_below HBT.out).trans (Off.of_below hb2)) (by simp) (by simp)))
          clear ho2 hb2 HO1 HB1 HBT HL1 HL2
          have fy : (y : Int) < (m1 : Int) := by omega
          have fy2 : y < m1 := hym
          go_wp2_with fail
          with_reducible refine HC.out.mono ?_
          rintro e w7 ⟨rfl, hw⟩
          subst hw
          go_wp2
          go_loopw [112] (fun iv wx => ∃ t : Nat, t ≤ y ∧ iv = .int .i64 ((t : Nat) : Int) ∧ Below w6.heap.size w6 wx) (fun iv _ => y - (intOf iv).toNat)
          case atStart => exact ⟨0, Nat.zero_le _, rfl, Below.refl _ _⟩
          case round =>
            obtain ⟨t, ht, rfl, hbx⟩ := hrel
            have hbxs := hbx.size
            rcases Nat.lt_or_ge t y with htm | htm
            · obtain ⟨p, hp⟩ : ∃ p, p = m1 - y + t := ⟨_, rfl⟩
              have hp2 : (m1 : Int) - (y : Int) + (t : Int) = (p : Int) := by omega
              have hpm : p < m1 := by omega
              obtain ⟨g2, o2, e2, hg2, hc2⟩ := (HO2.out.arg.below hbx).at_ (by omega)
              obtain ⟨g1, o1, e1, hg1, hc1⟩ := (HO1b.out.arg.below hbx).at_ (by omega)
              subst e2
              subst e1
              have f2 := fun j (hj : j < 6) => (hc2 (t * 6 + j) (by omega)).trans (accCs_at _ t j (by rw [lastL_len]; exact htm) hj)
              have f1 := fun j (hj : j < 6) => (hc1 (p * 6 + j) (by omega)).trans (accCs_at _ p j (by rw [lastL_len]; exact hpm) hj)
              rw [lastL_at _ _ _ _ _ htm] at f2
              rw [lastL_at _ _ _ _ _ hpm, show m1 - m1 + p = m1 - y + t by omega] at f1
              generalize la.getD ((m1 - y + t) % 64) noAcc = a at f1 f2
              obtain ⟨a0, a1, a2, a3, a4, a5⟩ := a
              have r0 := f2 0 (by omega)
              have r1 := f2 1 (by omega)
              have r2 := f2 2 (by omega)
              have r3 := f2 3 (by omega)
              have r4 := f2 4 (by omega)
              have r5 := f2 5 (by omega)
              have s0 := f1 0 (by omega)
              have s1 := f1 1 (by omega)
              have s2 := f1 2 (by omega)
              have s3 := f1 3 (by omega)
              have s4 := f1 4 (by omega)
              have s5 := f1 5 (by omega)
              simp only [AccV.cells, List.getElem?_cons_zero, List.getElem?_cons_succ, Nat.add_zero, ← Nat.add_assoc] at r0 r1 r2 r3 r4 r5 s0 s1 s2 s3 s4 s5
              have u0 : (0 : Int) ≤ (t : Int) := by omega
              have u1 : (t : Int) < (y : Int) := by omega
              have v0 : (0 : Int) ≤ (p : Int) := by omega
              have v1 : (p : Int) < (m1 : Int) := by omega
              have l1 : g1 < wr.heap.size := by omega
              have l2 : g2 < wr.heap.size := by omega
              have HBX := Lib.hid (hbx.alloc hbxs (.cells #[.int .i64 a0, .int .u8 a1, .int .i64 a2, .int .u64 a3, .int .u64 a4, .bool a5] 57))
              clear f1 f2 hc1 hc2 hbx
              have HP := Lib.hid hp
              clear hp
              go_wp2_with fail
              go_quiet (fail)
              have HBY : Hid (Below w6.heap.size w6 ((wr.alloc (.cells #[.int .i64 a0, .int .u8 a1, .int .i64 a2, .int .u64 a3, .int .u64 a4, .bool a5] 57)).drewN nq)) := Lib.hid ⟨HBX.out.os, HBX.out.tape, HBX.out.output, HBX.out.size, HBX.out.block⟩
              go_wp2
              go_roundw
              case rel => exact ⟨t + 1, by omega, by go_num, HBY.out⟩
              case measure => simp [intOf]; omega
            · have u1 : ¬ (t : Int) < (y : Int) := by omega
              have HBX := Lib.hid hbx
              clear hbx
              go_wp2
              go_ret
              exact ⟨rfl, HB2.out.trans (HBX.out.mono HB2.out.size)⟩
        · have HL1 := Lib.hid (h64.out m1 hm1)
          clear hm1
          go_wp2_with fail
          with_reducible refine HL1.out.mono ?_
          rintro e w5 ⟨A1, c1, rfl, ho1, hb1⟩
          skip
          have hb1s := hb1.size
          have hl2 := last_ok w5 b bw n ws 0 m1 la (ST.out.m.off (S := []) (Off.of_below hb1) (by simp) (by simp)) ST.out.ll hkb y hy64 m1 (by omega)
          skip
          have HL2 := Lib.hid hl2
          clear hl2
          have HO1 := Lib.hid ho1
          have HB1 := Lib.hid (ST.out.bel.trans (hb1.mono ST.out.bel.size))
          have HBT := Lib.hid hb1
          clear ho1 hb1
          go_wp2_with fail
          with_reducible refine HL2.out.mono ?_
          rintro e w6 ⟨A2, c2, rfl, ho2, hb2⟩
          have HO2 := Lib.hid ho2
          have HO1b := Lib.hid (HO1.out.below hb2)
          have HB2 := Lib.hid (HB1.out.trans (hb2.mono HB1.out.size))
          have HC := Lib.hid (mcount_s w6 b bw n ws m1 _ (ST.out.m.off (S := []) ((Off.of_below HBT.out).trans (Off.of_below hb2)) (by simp) (by simp)))
          clear ho2 hb2 HO1 HB1 HBT HL1 HL2
          have fy : ¬ (y : Int) < (m1 : Int) := by omega
          have fy2 : ¬ y < m1 := by omega
          go_wp2_with fail
          with_reducible refine HC.out.mono ?_
          rintro e w7 ⟨rfl, hw⟩
          subst hw
          go_wp2
          go_loopw [112] (fun iv wx => ∃ t : Nat, t ≤ m1 ∧ iv = .int .i64 ((t : Nat) : Int) ∧ Below w6.heap.size w6 wx) (fun iv _ => m1 - (intOf iv).toNat)
          case atStart => exact ⟨0, Nat.zero_le _, rfl, Below.refl _ _⟩
          case round =>
            obtain ⟨t, ht, rfl, hbx⟩ := hrel
            have hbxs := hbx.size
            rcases Nat.lt_or_ge t m1 with htm | htm
            · obtain ⟨p, hp⟩ : ∃ p, p = m1 - m1 + t := ⟨_, rfl⟩
              have hp2 : (t : Int) = (p : Int) := by omega
              have hpm : p < m1 := by omega
              obtain ⟨g2, o2, e2, hg2, hc2⟩ := (HO2.out.arg.below hbx).at_ (by omega)
              obtain ⟨g1, o1, e1, hg1, hc1⟩ := (HO1b.out.arg.below hbx).at_ (by omega)
              subst e2
              subst e1
              have f2 := fun j (hj : j < 6) => (hc2 (t * 6 + j) (by omega)).trans (accCs_at _ t j (by rw [lastL_len]; exact htm) hj)
              have f1 := fun j (hj : j < 6) => (hc1 (p * 6 + j) (by omega)).trans (accCs_at _ p j (by rw [lastL_len]; exact hpm) hj)
              rw [lastL_at _ _ _ _ _ htm] at f2
              rw [lastL_at _ _ _ _ _ hpm, show m1 - m1 + p = m1 - m1 + t by omega] at f1
              generalize la.getD ((m1 - m1 + t) % 64) noAcc = a at f1 f2
              obtain ⟨a0, a1, a2, a3, a4, a5⟩ := a
              have r0 := f2 0 (by omega)
              have r1 := f2 1 (by omega)
              have r2 := f2 2 (by omega)
              have r3 := f2 3 (by omega)
              have r4 := f2 4 (by omega)
              have r5 := f2 5 (by omega)
              have s0 := f1 0 (by omega)
              have s1 := f1 1 (by omega)
              have s2 := f1 2 (by omega)
              have s3 := f1 3 (by omega)
              have s4 := f1 4 (by omega)
              have s5 := f1 5 (by omega)
              simp only [AccV.cells, List.getElem?_cons_zero, List.getElem?_cons_succ, Nat.add_zero, ← Nat.add_assoc] at r0 r1 r2 r3 r4 r5 s0 s1 s2 s3 s4 s5
              have u0 : (0 : Int) ≤ (t : Int) := by omega
              have u1 : (t : Int) < (m1 : Int) := by omega
              have v0 : (0 : Int) ≤ (p : Int) := by omega
              have v1 : (p : Int) < (m1 : Int) := by omega
              have l1 : g1 < wr.heap.size := by omega
              have l2 : g2 < wr.heap.size := by omega
              have HBX := Lib.hid (hbx.alloc hbxs (.cells #[.int .i64 a0, .int .u8 a1, .int .i64 a2, .int .u64 a3, .int .u64 a4, .bool a5] 57))
              clear f1 f2 hc1 hc2 hbx
              obtain rfl : t = p := by omega
              clear hp hp2
              go_wp2_with fail
              go_quiet (fail)
              have HBY : Hid (Below w6.heap.size w6 ((wr.alloc (.cells #[.int .i64 a0, .int .u8 a1, .int .i64 a2, .int .u64 a3, .int .u64 a4, .bool a5] 57)).drewN nq)) := Lib.hid ⟨HBX.out.os, HBX.out.tape, HBX.out.output, HBX.out.size, HBX.out.block⟩
              go_wp2
              go_roundw
              case rel => exact ⟨t + 1, by omega, by go_num, HBY.out⟩
              case measure => simp [intOf]; omega
            · have u1 : ¬ (t : Int) < (m1 : Int) := by omega
              have HBX := Lib.hid hbx
              clear hbx
              go_wp2
              go_ret
              exact ⟨rfl, HB2.out.trans (HBX.out.mono HB2.out.size)⟩
end Go.Proofs.Ytddadlomkodgcaa
