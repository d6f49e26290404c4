/- The law CountPlays: its walk with a counter that is there. -/
import Derived.Test.YtddadlomkodgcaaCpW
import Derived.Deep.RegionHeld3
namespace Go.Proofs.Ytddadlomkodgcaa
open Go.RowKit
set_option maxRecDepth 100000
set_option linter.unusedVariables false

theorem zPend (w : World) (top c b bw d : Nat) (v k : Nat) (calls : List CallV) (who : Int) (wr : World) (h : CpS w top c b bw d wr v k v k calls calls) (t : Nat) :
    Calls Try.prog 32 #[.pointer (some ⟨c, 0, none⟩), .int .i64 who] (wr.drewN t) fun e w' => e = .returned (.bool (pendV calls who)) ∧ w' = wr.drewN t :=
  turnR (pend_all _ c b bw top v k calls (h.drewN t).cnt who)
theorem zDocPend (w : World) (top c b bw d : Nat) (v k : Nat) (calls : List CallV) (who : Int) (wr : World) (h : CpS w top c b bw d wr v k v k calls calls) (t : Nat) :
    Calls Try.prog 33 #[.pointer (some ⟨d, 0, none⟩), .int .i64 who] (wr.drewN t) fun e w' => e = .returned (.bool (pendV calls who)) ∧ w' = wr.drewN t :=
  turnR (dpend_all _ d top v k calls (h.drewN t).doc who)
theorem zValue (w : World) (top c b bw d : Nat) (v k : Nat) (calls : List CallV) (wr : World) (h : CpS w top c b bw d wr v k v k calls calls) (hv : v ≤ 9223372036854775807) (t : Nat) :
    Calls Try.prog 34 #[.pointer (some ⟨c, 0, none⟩)] (wr.drewN t) fun e w' => e = .returned (.int .i64 (v : Int)) ∧ w' = wr.drewN t :=
  turnR (value_any _ c b bw top v k calls (h.drewN t).cnt hv)
theorem zSteps (w : World) (top c b bw d : Nat) (v k : Nat) (calls : List CallV) (wr : World) (h : CpS w top c b bw d wr v k v k calls calls) (t : Nat) :
    Calls Try.prog 35 #[.pointer (some ⟨c, 0, none⟩)] (wr.drewN t) fun e w' => e = .returned (.int .i64 (k : Int)) ∧ w' = wr.drewN t :=
  turnR (steps_any _ c b bw top v k calls (h.drewN t).cnt)
def CpInv (w : World) (top c b bw d n : Nat) (iv : Value) (wr : World) : Prop :=
  ∃ i v k calls, i ≤ n ∧ i ≤ 400 ∧ iv = .int .i64 ((i : Nat) : Int) ∧ CpS w top c b bw d wr v k v k calls calls ∧ CpI top i v k calls
set_option maxHeartbeats 6400000 in
theorem countPlays_good (top : Nat) (ht : top ≤ 4611686018427387903) (A : Option Addr) (n cap : Nat) (l : List (Int × Int)) (w : World) (h : ArgC w w.heap.size 2 A n cap (FP l)) (hd : cap ≤ 8796093021952) (hpk : okPick l) :
    Calls Try.prog 6 #[.int .i64 (top : Int), .slice A n cap] w (ValEnd w (.bool true)) := by
  have hle := h.le
  have HAG := Lib.hid h
  have HPK := Lib.hid hpk
  have HC := Lib.hid (fun w => cnew_ok w top ht)
  have HD := Lib.hid (fun w => dnew_ok w top ht)
  clear h hpk
  go_enter Try.func6, Try.ntmps6
  go_wp2_with fail
  with_reducible refine (awake12_any _).mono ?_
  rintro e w1 ⟨rfl, hB⟩
  have HB1 := Lib.hid hB
  have hs1 := hB.size
  clear hB
  go_wp2_with fail
  with_reducible refine (HC.out _).mono ?_
  rintro e w2 ⟨c, b, bw, rfl, hc, hb, hbw, h1, hB⟩
  have HB2 := Lib.hid (HB1.out.trans (hB.mono hs1))
  have H1 := Lib.hid h1
  have hs2 := hB.size
  have lc : c < w2.heap.size ∧ b < w2.heap.size ∧ bw < w2.heap.size := by
    obtain ⟨rg, hm⟩ := h1.m
    exact ⟨h1.blk.lt, hm.blk.lt, hm.wd.lt⟩
  clear hB h1
  go_wp2_with fail
  with_reducible refine (HD.out _).mono ?_
  rintro e w3 ⟨d, rfl, hdd, h3, hB⟩
  have hs3 := hB.size
  have S0 : Hid (CpS w top c b bw d w3 0 0 0 0 (List.replicate 64 noCall) (List.replicate 64 noCall)) :=
    Lib.hid ⟨H1.out.below hB, h3, HB2.out.trans (hB.mono (by omega)), by omega, by omega, by omega, by omega, by simp; omega⟩
  have I0 : Hid (CpI top 0 0 0 (List.replicate 64 noCall)) := Lib.hid ⟨Nat.le_refl _, Nat.zero_le _, (fun j hj => by rw [List.getD_eq_getElem?_getD, List.getElem?_replicate, if_pos hj]; exact OkCall.none_ _), by simp⟩
  clear hB h3 H1 HC HD HB1 HB2
  go_wp2
  go_loopw [39] (fun iv wr => CpInv w top c b bw d n iv wr) (fun iv _ => n - (intOf iv).toNat)
  case atStart => exact ⟨0, 0, 0, _, Nat.zero_le _, by omega, rfl, S0.out, I0.out⟩
  case round =>
    obtain ⟨i, v, k, calls, hi, hi4, rfl, st, I⟩ := hrel
    clear S0 I0
    have hbs := st.bel.size
    have hvt := I.vt
    have hki := I.ki
    rcases Nat.lt_or_ge i n with hin | hin
    · obtain ⟨bb, off, eA, hbb, q0, q1⟩ := pick_at (HAG.out.below st.bel) hin
      have hx := okPick_at HPK.out i
      subst eA
      generalize l.getD i (0, 0) = xy at q0 q1 hx
      obtain ⟨x, y⟩ := xy
      simp only at q0 q1 hx
      obtain ⟨op, rfl⟩ := Int.eq_ofNat_of_zero_le hx.2.1
      have j0 : (0 : Int) ≤ (i : Int) := by omega
      have j1 : (i : Int) < (n : Int) := by omega
      have hbb2 : bb < wr.heap.size := by omega
      obtain ⟨lc1, lb1, lbw1, ld1⟩ := st.lts
      have HI := Lib.hid I
      rcases Nat.lt_or_ge i 400 with h3 | h3
      · have h3' : ¬ (400 : Int) ≤ (i : Int) := by omega
        have Z1 : Hid (CpZ w top c b bw d wr.heap.size x op (wr.alloc (.cells #[.int .i64 x, .int .u8 (op : Int)] 67)) v k calls calls) :=
          Lib.hid ⟨st.alloc _, BlkL.new wr _ _, by simp; omega⟩
        clear st I
        by_cases hy : op = 0
        · subst hy
          have I5 := Lib.hid (HI.out.step x)
          have HS := Lib.hid (step_all _ c b bw top v k calls Z1.out.s.cnt (by omega) hvt ht HI.out.okc x)
          have HDS := Lib.hid (fun w2 (hdoc : DcS w2 d top v k calls) => dstep_all w2 d top v k calls hdoc (by omega) hvt ht HI.out.okc x)
          generalize stepA top v k calls x = sa at HS HDS I5
          obtain ⟨sd, se, sn, ser, v', k', calls'⟩ := sa
          simp only at HS HDS I5
          rw [show ((0 : Nat) : Int) = 0 from rfl] at q1 Z1 HS
          go_wp2_with fail
          with_reducible refine HS.out.mono ?_
          rintro e w3 ⟨rfl, hc3, hf3⟩
          have S3 := Lib.hid ((Z1.out.s.act hc3 hf3).alloc (.cells #[.bool sd, .int .i64 se, .int .i64 sn] 71))
          have hn := Z1.out.nz
          simp only [List.mem_cons, List.not_mem_nil, or_false, not_or] at hn
          have kz := (Z1.out.zb.off hf3 (by simp; exact ⟨hn.1, hn.2.1, hn.2.2.1⟩)).alloc (.cells #[.bool sd, .int .i64 se, .int .i64 sn] 71)
          have kr := BlkL.new w3 [.bool sd, .int .i64 se, .int .i64 sn] 71
          have hrd : w3.heap.size ∉ [d] := by have := (Z1.out.s.act hc3 hf3).lts; simp; omega
          have hzd : wr.heap.size ∉ [d] := by simp; omega
          have HDS1 := Lib.hid (HDS.out _ S3.out.doc)
          have z0 := kz.cell 0 _ rfl
          have zl := kz.lt
          have KZ := Lib.hid kz
          have KR := Lib.hid kr
          clear hc3 hf3 kz kr hn
          go_wp2_with fail
          with_reducible refine HDS1.out.mono ?_
          rintro e w4 ⟨rfl, hd4, hf4⟩
          have S4 := Lib.hid ((S3.out.actD hd4 hf4).alloc (.cells #[.bool sd, .int .i64 se, .int .i64 sn] 75))
          have kz := (KZ.out.off hf4 hzd).alloc (.cells #[.bool sd, .int .i64 se, .int .i64 sn] 75)
          have kr := (KR.out.off hf4 hrd).alloc (.cells #[.bool sd, .int .i64 se, .int .i64 sn] 75)
          clear z0 zl
          have r0 := kr.cell 0 _ rfl
          have r1 := kr.cell 1 _ rfl
          have r2 := kr.cell 2 _ rfl
          have rl := kr.lt
          have KZ2 := Lib.hid kz
          clear hd4 hf4 kz kr
          go_wp2_with fail
          with_reducible refine (same12_any _ sd se sn).mono ?_
          rintro e w5 ⟨rfl, hb5⟩
          have S5 := Lib.hid (S4.out.below hb5)
          have kz := KZ2.out.below hb5
          clear r0 r1 r2 rl
          have z0 := kz.cell 0 _ rfl
          have zl := kz.lt
          clear hb5 kz S4 S3 HS HDS HDS1 KZ KZ2 KR Z1
          generalize w5 = wq at *
          have hv' := I5.out.vt
          have HP := Lib.hid (zPend w top c b bw d v' k' calls' x wq S5.out)
          have HDP := Lib.hid (zDocPend w top c b bw d v' k' calls' x wq S5.out)
          go_wp2_with fail
          go_quiet (first | (go_at_call 32; with_reducible exact Calls.quiet_of_same (HP.out _)) | (go_at_call 33; with_reducible exact Calls.quiet_of_same (HDP.out _)))
          have S6 := Lib.hid (S5.out.drewN nq)
          clear z0 zl HP HDP S5
          generalize World.drewN _ nq = we at *
          obtain ⟨dop, drd, dnn, hdb, hdr⟩ := S6.out.doc
          have d1 := hdb.c1
          have d2 := hdb.c2
          have dl := hdb.lt
          clear hdb hdr
          have HV := Lib.hid (zValue w top c b bw d v' k' calls' we S6.out (by omega))
          have HT := Lib.hid (zSteps w top c b bw d v' k' calls' we S6.out)
          go_wp2_with fail
          go_quiet (first | (go_at_call 34; with_reducible exact Calls.quiet_of_same (HV.out _)) | (go_at_call 35; with_reducible exact Calls.quiet_of_same (HT.out _)))
          have S7 := Lib.hid (S6.out.drewN nq)
          clear HV HT d1 d2 dl
          go_wp2
          go_roundw
          case rel => exact ⟨i + 1, v', k', calls', by omega, by omega, by go_num, S7.out, I5.out⟩
          case measure => simp [intOf]; omega
        · have hy' : ¬ (op : Int) = 0 := by omega
          have I5 := Lib.hid (HI.out.start x op)
          have HA := Lib.hid (fun w2 dcalls h => zStart w top c b bw d wr.heap.size x op v k calls x op w2 dcalls h)
          have HB := Lib.hid (fun w2 calls0 h => zDocStart w top c b bw d wr.heap.size x op v k calls x op w2 calls0 h)
          generalize startE calls x op = se at HA HB
          generalize startC calls x op = calls' at HA HB I5
          have zs : wr.heap.size < (wr.alloc (.cells #[.int .i64 x, .int .u8 (op : Int)] 67)).heap.size := by simp
          go_wp2_with fail
          go_region_held3 (fun w' => w'.cell? ⟨wr.heap.size, 0, none⟩ = some (.int .i64 x) ∧ w'.cell? ⟨wr.heap.size, 1, none⟩ = some (.int .u8 (op : Int)))
            (first | exact ⟨Z1.out.drew.p0, Z1.out.drew.p1⟩ | exact ⟨z5.p0, z5.p1⟩ | exact ⟨z6.p0, z6.p1⟩)
            (first
            | ((with_reducible refine (HA.out _ _ Z1.out.drew).mono ?_); rintro e w5 ⟨rfl, z5⟩; have p0 := z5.p0; have p1 := z5.p1; have pl := z5.zb.lt)
            | ((with_reducible refine (HB.out _ _ Z1.out.drew).mono ?_); rintro e w5 ⟨rfl, z5⟩; have p0 := z5.p0; have p1 := z5.p1; have pl := z5.zb.lt)
            | ((with_reducible refine (HA.out _ _ z5).mono ?_); rintro e w6 ⟨rfl, z6⟩)
            | ((with_reducible refine (HB.out _ _ z5).mono ?_); rintro e w6 ⟨rfl, z6⟩))
          all_goals
            clear p0 p1 pl
            have S5 := Lib.hid z6.s
            have z0 := z6.p0
            have zl := z6.zb.lt
            clear z5 z6 HA HB Z1
            generalize w6 = wq at *
            have HP := Lib.hid (zPend w top c b bw d v k calls' x wq S5.out)
            have HDP := Lib.hid (zDocPend w top c b bw d v k calls' x wq S5.out)
            go_wp2_with fail
            go_quiet (first | (go_at_call 32; with_reducible exact Calls.quiet_of_same (HP.out _)) | (go_at_call 33; with_reducible exact Calls.quiet_of_same (HDP.out _)))
            have S6 := Lib.hid (S5.out.drewN nq)
            clear z0 zl HP HDP S5
            generalize World.drewN _ nq = we at *
            obtain ⟨dop, drd, dnn, hdb, hdr⟩ := S6.out.doc
            have d1 := hdb.c1
            have d2 := hdb.c2
            have dl := hdb.lt
            clear hdb hdr
            have HV := Lib.hid (zValue w top c b bw d v k calls' we S6.out (by omega))
            have HT := Lib.hid (zSteps w top c b bw d v k calls' we S6.out)
            go_wp2_with fail
            go_quiet (first | (go_at_call 34; with_reducible exact Calls.quiet_of_same (HV.out _)) | (go_at_call 35; with_reducible exact Calls.quiet_of_same (HT.out _)))
            have S7 := Lib.hid (S6.out.drewN nq)
            clear HV HT d1 d2 dl
            go_wp2
            go_roundw
            case rel => exact ⟨i + 1, v, k, calls', by omega, by omega, by go_num, S7.out, I5.out⟩
            case measure => simp [intOf]; omega
      · have h3' : (400 : Int) ≤ (i : Int) := by omega
        have S1 := Lib.hid (st.alloc (.cells #[.int .i64 x, .int .u8 (op : Int)] 67))
        clear st I
        go_wp2
        go_ret
        exact ⟨rfl, S1.out.bel⟩
    · obtain rfl : i = n := by omega
      have j1 : ¬ (i : Int) < (i : Int) := by omega
      have S1 := Lib.hid st
      clear st I
      go_wp2
      go_ret
      exact ⟨rfl, S1.out.bel⟩
theorem countPlays_walk (lim : Int) (A : Option Addr) (n d : Nat) (l : List (Int × Int)) (w : World) (h : ArgC w w.heap.size 2 A n d (FP l)) (hd : d ≤ 8796093021952) (hpk : okPick l) :
    Calls Try.prog 6 #[.int .i64 lim, .slice A n d] w (ValEnd w (.bool true)) := by
  rcases hl : isTick lim with _ | _
  · exact countPlays_nil lim hl A n d l w h hd hpk
  · have := isTick_iff.mp hl
    obtain ⟨top, rfl⟩ := Int.eq_ofNat_of_zero_le this.1
    exact countPlays_good top (by omega) A n d l w h hd hpk
end Go.Proofs.Ytddadlomkodgcaa
