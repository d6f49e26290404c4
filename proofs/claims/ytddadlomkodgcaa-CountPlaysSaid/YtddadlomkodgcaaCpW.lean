/- The law CountPlays: its walk. -/
import Derived.Test.YtddadlomkodgcaaCpM
import Derived.BigRegion
import Derived.Deep.QuietTactic
import Derived.Deep.RegionWith
import Derived.BigQuiet
import Derived.Outline
namespace Go.Proofs.Ytddadlomkodgcaa
open Go.RowKit
set_option maxRecDepth 100000
set_option linter.unusedVariables false

theorem turnR {P : Program} {f : FuncId} {args : Array Value} {w : World} {v : Value} (h : Calls P f args w fun e w' => e = .returned v ∧ w = w') : Calls P f args w fun e w' => e = .returned v ∧ w' = w :=
  h.mono fun e w' ⟨h1, h2⟩ => ⟨h1, h2.symm⟩
set_option maxHeartbeats 6400000 in
theorem countPlays_nil (lim : Int) (hl : isTick lim = false) (A : Option Addr) (n d : Nat) (l : List (Int × Int)) (w : World) (h : ArgC w w.heap.size 2 A n d (FP l)) (hd : d ≤ 8796093021952) (hpk : okPick l) :
    Calls Try.prog 6 #[.int .i64 lim, .slice A n d] w (ValEnd w (.bool true)) := by
  have hle := h.le
  have HAG := Lib.hid h
  have HPK := Lib.hid hpk
  have hlb : lim < 0 ∨ 4611686018427387903 < lim := by
    by_cases h1 : lim < 0
    · exact .inl h1
    · by_cases h2 : 4611686018427387903 < lim
      · exact .inr h2
      · rw [isTick_iff.mpr (by omega)] at hl; cases hl
  have HC := Lib.hid (fun w => cnew_bad w lim hlb)
  have HD := Lib.hid (fun w => dnew_bad w lim hl)
  clear h hpk hlb hl
  go_enter Try.func6, Try.ntmps6
  go_wp2_with fail
  with_reducible refine (awake12_any _).mono ?_
  rintro e w1 ⟨rfl, hB⟩
  have HB1 := Lib.hid hB
  clear hB
  go_wp2_with fail
  with_reducible refine (HC.out _).mono ?_
  rintro e w2 ⟨rfl, hw⟩
  subst hw
  go_wp2_with fail
  with_reducible refine (HD.out _).mono ?_
  rintro e w2 ⟨rfl, hw⟩
  subst hw
  clear HC HD
  go_wp2
  go_loopw [39] (fun iv wr => ∃ i : Nat, i ≤ n ∧ iv = .int .i64 ((i : Nat) : Int) ∧ Below w.heap.size w wr) (fun iv _ => n - (intOf iv).toNat)
  case atStart => exact ⟨0, Nat.zero_le _, rfl, HB1.out⟩
  case round =>
    obtain ⟨i, hi, rfl, hB⟩ := hrel
    clear HB1
    have hbs := hB.size
    rcases Nat.lt_or_ge i n with hin | hin
    · obtain ⟨bb, off, eA, hbb, q0, q1⟩ := pick_at (HAG.out.below hB) hin
      have hx := okPick_at HPK.out i
      subst eA
      generalize l.getD i (0, 0) = xy at q0 q1 hx
      obtain ⟨x, y⟩ := xy
      simp only at q0 q1 hx
      obtain ⟨op, rfl⟩ := Int.eq_ofNat_of_zero_le hx.2.1
      have j0 : (0 : Int) ≤ (i : Int) := by omega
      have j1 : (i : Int) < (n : Int) := by omega
      have hbb2 : bb < wr.heap.size := by omega
      have HB := Lib.hid (hB.alloc hbs (.cells #[.int .i64 x, .int .u8 (op : Int)] 67))
      have HP := Lib.hid (fun w => turnR (pend_nil w x))
      have HDP := Lib.hid (fun w => turnR (dpend_nil w x))
      have HV := Lib.hid (fun w => turnR (value_nil w))
      clear hB
      rcases Nat.lt_or_ge i 400 with h3 | h3
      · have h3' : ¬ (400 : Int) ≤ (i : Int) := by omega
        by_cases hy : op = 0
        · subst hy
          have HS := Lib.hid (fun w => stepN_all w x)
          have HDS := Lib.hid (fun w => dstepN_all w x)
          generalize stepN x = se at HS HDS
          rw [show ((0 : Nat) : Int) = 0 from rfl] at q1 HB
          go_wp2_with fail
          with_reducible refine (HS.out _).mono ?_
          rintro e w3 ⟨rfl, hb3⟩
          have HB3 := Lib.hid ((HB.out.trans (hb3.mono HB.out.size)).alloc (HB.out.trans (hb3.mono HB.out.size)).size (.cells #[.bool false, .int .i64 0, .int .i64 0] 71))
          have kz := ((BlkL.new wr [.int .i64 x, .int .u8 0] 67).below hb3).alloc (.cells #[.bool false, .int .i64 0, .int .i64 0] 71)
          have kr := BlkL.new w3 [.bool false, .int .i64 0, .int .i64 0] 71
          have z0 := kz.cell 0 _ rfl
          have zl := kz.lt
          have KZ := Lib.hid kz
          have KR := Lib.hid kr
          clear hb3 kz kr
          go_wp2_with fail
          with_reducible refine (HDS.out _).mono ?_
          rintro e w4 ⟨rfl, hb4⟩
          have HB4 := Lib.hid ((HB3.out.trans (hb4.mono HB3.out.size)).alloc (HB3.out.trans (hb4.mono HB3.out.size)).size (.cells #[.bool false, .int .i64 0, .int .i64 0] 75))
          have kz := (KZ.out.below hb4).alloc (.cells #[.bool false, .int .i64 0, .int .i64 0] 75)
          have kr := (KR.out.below hb4).alloc (.cells #[.bool false, .int .i64 0, .int .i64 0] 75)
          clear z0 zl
          have r0 := kr.cell 0 _ rfl
          have r1 := kr.cell 1 _ rfl
          have r2 := kr.cell 2 _ rfl
          have rl := kr.lt
          have KZ2 := Lib.hid kz
          clear hb4 kz kr
          go_wp2_with fail
          with_reducible refine (same12_any _ false 0 0).mono ?_
          rintro e w5 ⟨rfl, hb5⟩
          have HB5 := Lib.hid (HB4.out.trans (hb5.mono HB4.out.size))
          have kz := KZ2.out.below hb5
          clear r0 r1 r2 rl
          have z0 := kz.cell 0 _ rfl
          have zl := kz.lt
          clear hb5 kz
          have HBq := HB5
          generalize w5 = wq at *
          go_wp2_with fail
          go_quiet (first | (go_at_call 32; with_reducible exact Calls.quiet_of_same (HP.out _)) | (go_at_call 33; with_reducible exact Calls.quiet_of_same (HDP.out _)))
          have HBe : Hid (Below w.heap.size w (wq.drewN nq)) := Lib.hid ⟨HBq.out.os, HBq.out.tape, HBq.out.output, HBq.out.size, HBq.out.block⟩
          clear z0 zl
          generalize World.drewN _ nq = we at *
          go_wp2_with fail
          go_quiet (fail)
          have HBf : Hid (Below w.heap.size w (we.drewN nq)) := Lib.hid ⟨HBe.out.os, HBe.out.tape, HBe.out.output, HBe.out.size, HBe.out.block⟩
          go_wp2
          go_roundw
          case rel => exact ⟨i + 1, by omega, by go_num, HBf.out⟩
          case measure => simp [intOf]; omega
        · have HS := Lib.hid (fun w => turnR (startN_all w x op))
          have HDS := Lib.hid (fun w => turnR (dstartN_all w x op))
          generalize startN x op = se at HS HDS
          have hy' : ¬ (op : Int) = 0 := by omega
          go_wp2_with fail
          go_quiet (first | (go_at_call 27; with_reducible exact Calls.quiet_of_same (HS.out _)) | (go_at_call 28; with_reducible exact Calls.quiet_of_same (HDS.out _)))
          have HBq : Hid (Below w.heap.size w ((wr.alloc (.cells #[.int .i64 x, .int .u8 (op : Int)] 67)).drewN nq)) := Lib.hid ⟨HB.out.os, HB.out.tape, HB.out.output, HB.out.size, HB.out.block⟩
          have kz := (BlkL.new wr [.int .i64 x, .int .u8 (op : Int)] 67).drewN nq
          have z0 := kz.cell 0 _ rfl
          have zl := kz.lt
          clear kz
          generalize World.drewN _ nq = wq at *
          go_wp2_with fail
          go_quiet (first | (go_at_call 32; with_reducible exact Calls.quiet_of_same (HP.out _)) | (go_at_call 33; with_reducible exact Calls.quiet_of_same (HDP.out _)))
          have HBe : Hid (Below w.heap.size w (wq.drewN nq)) := Lib.hid ⟨HBq.out.os, HBq.out.tape, HBq.out.output, HBq.out.size, HBq.out.block⟩
          clear z0 zl
          generalize World.drewN _ nq = we at *
          go_wp2_with fail
          go_quiet (fail)
          have HBf : Hid (Below w.heap.size w (we.drewN nq)) := Lib.hid ⟨HBe.out.os, HBe.out.tape, HBe.out.output, HBe.out.size, HBe.out.block⟩
          go_wp2
          go_roundw
          case rel => exact ⟨i + 1, by omega, by go_num, HBf.out⟩
          case measure => simp [intOf]; omega
      · have h3' : (400 : Int) ≤ (i : Int) := by omega
        have HS0 := Lib.hid (fun w => steps_nil w)
        have HV0 := Lib.hid (fun w => value_nil w)
        go_wp2_with fail
        with_reducible refine (HV0.out _).mono ?_
        rintro e w5 ⟨rfl, hw⟩
        subst hw
        go_wp2_with fail
        with_reducible refine (HS0.out _).mono ?_
        rintro e w5 ⟨rfl, hw⟩
        subst hw
        go_wp2
        go_ret
        exact ⟨rfl, HB.out⟩
    · obtain rfl : i = n := by omega
      have j1 : ¬ (i : Int) < (i : Int) := by omega
      have HB := Lib.hid hB
      clear hB
      have HV := Lib.hid (fun w => turnR (value_nil w))
      have HS0 := Lib.hid (fun w => steps_nil w)
      have HV0 := Lib.hid (fun w => value_nil w)
      go_wp2_with fail
      with_reducible refine (HV0.out _).mono ?_
      rintro e w5 ⟨rfl, hw⟩
      subst hw
      go_wp2_with fail
      with_reducible refine (HS0.out _).mono ?_
      rintro e w5 ⟨rfl, hw⟩
      subst hw
      go_wp2
      go_ret
      exact ⟨rfl, HB.out⟩
end Go.Proofs.Ytddadlomkodgcaa
