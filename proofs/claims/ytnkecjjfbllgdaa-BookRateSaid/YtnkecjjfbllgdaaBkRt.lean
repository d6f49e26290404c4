/- BookRate: the walk. -/
import Derived.Test.YtnkecjjfbllgdaaBkRm
import Derived.Deep.DeepCutAuto
namespace Go.Proofs.Ytnkecjjfbllgdaa
open Go.RowKit Go.Maps
set_option maxRecDepth 100000
set_option linter.unusedVariables false

/-- Where the book stands. -/
structure RtR (w0 w : World) (T Tau f t xa ma : Nat) (A1 : Option Addr) (c1 j now Lf : Nat) : Prop where
  low : Below w0.heap.size w0 w
  ga : w0.heap.size ≤ ma
  nw : now ≤ 4611686018427387903
  lf : Lf ≤ 9223372036854775807
  st : ∃ ka M, BkX w xa A1 2 c1 (tabR T Tau) 4096 ma ka M ∧ ka ≤ j ∧ RtI T Tau f t M now Lf
structure PW (w0 : World) (ls : List Value) (W : World) : Prop where
  b : Below w0.heap.size w0 W
  k : BlkL W w0.heap.size ls
theorem PW.drew {w0 W : World} {ls : List Value} (h : PW w0 ls W) : PW w0 ls W.drew := ⟨h.b.drew, h.k.drew⟩
theorem rtab_arg {W : World} {b : Nat} {T Tau : Nat} (hb : b < W.heap.size) (h : ∀ j v, (FP (tabR T Tau))[j]? = some v → W.cell? ⟨b, j, none⟩ = some v) : ArgC W W.heap.size 4 (some ⟨b, 0, none⟩) 2 2 (FP (tabR T Tau)) := by
  refine ⟨rfl, Nat.le_refl _, by unfold maxLen; omega, (fun e => by cases e), fun _ => ⟨b, 0, rfl, hb, fun j hj => ?_⟩⟩
  rw [Nat.zero_add]
  have hj2 : j < (FP (tabR T Tau)).length := by rw [FP_len]; exact hj
  rw [h j _ (List.getElem?_eq_getElem hj2), List.getElem?_eq_getElem hj2]
theorem rnew_any (W : World) (b T Tau : Nat) (hT : 1 ≤ T) (hT2 : T ≤ 4611686018427387903) (hU : Tau ≤ 4611686018427387903) (h : ArgC W W.heap.size 4 (some ⟨b, 0, none⟩) 2 2 (FP (tabR T Tau))) :
    Calls Try.prog 15 #[.slice (some ⟨b, 0, none⟩) 2 2, .int .i64 4096] W
    fun e w' => ∃ xb A' c' mb, e = .returned (.tuple #[.pointer (some ⟨xb, 0, none⟩), .int .i64 0]) ∧ BkX w' xb A' 2 c' (tabR T Tau) 4096 mb 0 (fun _ => none) ∧ W.heap.size ≤ mb ∧ Below W.heap.size W w' := by
  refine (bnew_any W b 0 2 2 4096 (tabR T Tau) h (by omega) (by omega) (tabR_ok hT hT2 hU)).mono ?_
  rintro e w' ⟨xb, A', c', mb, he, hx, h1, h2, hb⟩
  exact ⟨xb, A', c', mb, he, hx, h2, hb⟩
abbrev litR (T Tau : Int) : List Value := [.int .u8 1, .int .i64 T, .int .i64 Tau, .int .i64 0, .int .u8 2, .int .i64 0, .int .i64 0, .int .i64 2]
theorem table_lit (w : World) : Calls Try.prog 16 #[] w fun e w' => e = .returned (.slice (some ⟨w.heap.size, 0, none⟩) 2 2) ∧ w' = w.alloc (.cells #[.int .u8 1, .int .i64 10, .int .i64 20, .int .i64 0, .int .u8 2, .int .i64 0, .int .i64 0, .int .i64 2] 52) := table_any w
theorem FP_lit (T Tau : Nat) : FP (tabR T Tau) = litR T Tau := rfl
theorem rlit_arg {W : World} {b : Nat} {T Tau : Nat} (h : BlkL W b (litR T Tau)) : ArgC W W.heap.size 4 (some ⟨b, 0, none⟩) 2 2 (FP (tabR T Tau)) := rtab_arg h.lt fun j v hj => h.cell j v hj
theorem clamp_nat (a : Int) : ∃ x : Nat, clampV a = (x : Int) ∧ x ≤ 4611686018427387903 := by
  have h := tick_clamp a
  have h2 := isTick_iff.1 h
  exact ⟨(clampV a).toNat, by omega, by omega⟩

set_option maxHeartbeats 6400000 in
theorem bookRate_walk (A0 : Option Addr) (n0 c0 : Nat) (sc : List AskV) (TI TauI frI toI : Int) (w : World) (hsc : AskA w w.heap.size A0 n0 c0 sc) (hcap : c0 ≤ 2199023255488)
    (h1 : TI ≤ 9223372036854775807) (h2 : TauI ≤ 9223372036854775807) (h3 : frI ≤ 9223372036854775807) (h4 : toI ≤ 9223372036854775807) :
    Calls Try.prog 8 #[.agg #[.int .i64 TI, .int .i64 TauI], .slice A0 n0 c0, .int .i64 frI, .int .i64 toI] w (ValEnd w (.bool true)) := by
  obtain ⟨T0, hT0, hT0b⟩ := clamp_nat TI
  obtain ⟨Tau, hTau, hTaub⟩ := clamp_nat TauI
  obtain ⟨F, hF, hFb⟩ := clamp_nat frI
  obtain ⟨G, hG, hGb⟩ := clamp_nat toI
  obtain ⟨T, hT⟩ : ∃ T, T = max T0 1 := ⟨_, rfl⟩
  obtain ⟨f, hf⟩ : ∃ f, f = min F G := ⟨_, rfl⟩
  obtain ⟨t, ht⟩ : ∃ t, t = max F G := ⟨_, rfl⟩
  have x1 : (if (T0 : Int) < 1 then (1 : Int) else (T0 : Int)) = (T : Int) := by split <;> omega
  have x2 : (if (1 : Int) < (T0 : Int) then (T0 : Int) else 1) = (T : Int) := by split <;> omega
  have HTT := Lib.hid (show 1 ≤ T ∧ T ≤ 4611686018427387903 from by omega)
  have HFT := Lib.hid (show f ≤ t ∧ t ≤ 4611686018427387903 from by omega)
  have HX := Lib.hid (And.intro x1 x2)
  have HYZ := Lib.hid (And.intro hf ht)
  have HB0 := Lib.hid (below_a1 w (.cells #[.int .i64 TI, .int .i64 TauI] 50))
  have K0 := Lib.hid (BlkL.new w [.int .i64 TI, .int .i64 TauI] 50)
  have HAw := Lib.hid (awake16_any (w.alloc (.cells #[.int .i64 TI, .int .i64 TauI] 50)))
  have HC1 := Lib.hid (fun W (hW : PW w [.int .i64 TI, .int .i64 TauI] W) => show Calls Try.prog 24 #[.int .i64 TI] W (fun e w' => e = .returned (.int .i64 (T0 : Int)) ∧ PW w [.int .i64 TI, .int .i64 TauI] w') from by
    rw [← hT0]; exact (rclamp_any W TI h1).mono fun e w' ⟨he, hb⟩ => ⟨he, hW.b.trans (hb.mono hW.b.size), hW.k.below hb⟩)
  have HC2 := Lib.hid (fun W (hW : PW w [.int .i64 TI, .int .i64 TauI] W) => show Calls Try.prog 24 #[.int .i64 TauI] W (fun e w' => e = .returned (.int .i64 (Tau : Int)) ∧ PW w [.int .i64 TI, .int .i64 TauI] w') from by
    rw [← hTau]; exact (rclamp_any W TauI h2).mono fun e w' ⟨he, hb⟩ => ⟨he, hW.b.trans (hb.mono hW.b.size), hW.k.below hb⟩)
  have HC3 := Lib.hid (fun W => show Calls Try.prog 24 #[.int .i64 frI] W (fun e w' => e = .returned (.int .i64 (F : Int)) ∧ Below W.heap.size W w') from by
    rw [← hF]; exact rclamp_any W frI h3)
  have HC4 := Lib.hid (fun W => show Calls Try.prog 24 #[.int .i64 toI] W (fun e w' => e = .returned (.int .i64 (G : Int)) ∧ Below W.heap.size W w') from by
    rw [← hG]; exact rclamp_any W toI h4)
  have HWI := Lib.hid (fun w => withinP_any w (T : Int) (Tau : Int) ((t : Int) - (f : Int)))
  rw [with_good HTT.out.1 HTT.out.2 hTaub HFT.out.1 HFT.out.2] at HWI
  have HLF := Lib.hid (with_le T Tau (t - f) hTaub (by omega))
  have HT := Lib.hid table_lit
  have HN := Lib.hid (fun W b h => rnew_any W b T Tau HTT.out.1 HTT.out.2 hTaub h)
  have HSC := Lib.hid hsc
  have hle0 : n0 ≤ c0 := hsc.arg.le
  have HTB := Lib.hid hTaub
  clear hsc h1 h2 h3 h4 hT0 hTau hF hG hT hf ht x1 x2 hTaub
  go_enter Try.func8, Try.ntmps8
  go_wp2_with fail
  with_reducible refine (HAw.out).mono ?_
  rintro e w1 ⟨rfl, hb1⟩
  have hp1 : PW w [.int .i64 TI, .int .i64 TauI] w1.drew := ⟨(HB0.out.trans (hb1.mono (by simp))).drew, (K0.out.below hb1).drew⟩
  have c0 := (K0.out.below hb1).cell 0 _ rfl
  have c1 := (K0.out.below hb1).cell 1 _ rfl
  have x1 := HX.out.1
  have x2 := HX.out.2
  clear hb1 HAw HB0 K0
  go_upto_region 3 with (fail)
  go_cut [27] (fun s27 wx => s27 = .agg #[.int .i64 (T : Int), .int .i64 (Tau : Int)] ∧ PW w [.int .i64 (T : Int), .int .i64 (Tau : Int)] wx)
  case first =>
    go_region_with (first | (with_reducible refine (HC1.out _ (by assumption)).mono ?_; rintro e w2 ⟨rfl, hp⟩; have c0 := hp.k.cell 0 _ rfl; have c1 := hp.k.cell 1 _ rfl; have f0 := hp.k.froz 0 (by simp); have f1 := hp.k.froz 1 (by simp); have zl := hp.k.lt) | (with_reducible refine (HC2.out _ (by assumption)).mono ?_; rintro e w2 ⟨rfl, hp⟩; have c0 := hp.k.cell 0 _ rfl; have c1 := hp.k.cell 1 _ rfl; have f0 := hp.k.froz 0 (by simp); have f1 := hp.k.froz 1 (by simp); have zl := hp.k.lt))
    all_goals
      have kz := hp.k.put2 (.int .i64 (T : Int)) (.int .i64 (Tau : Int))
      have hbz := below_put2 hp.b (b := w.heap.size) (Nat.le_refl _) (.int .i64 (T : Int)) (.int .i64 (Tau : Int))
      go_wp2_with fail
      go_meet
      exact ⟨rfl, hbz, kz⟩
  case rest =>
    obtain ⟨rfl, hp2⟩ := hcut
    have x0 := hp2.k.cell 0 _ rfl
    have x9 := hp2.k.cell 1 _ rfl
    have HP2 := Lib.hid hp2
    have hlt2 := hp2.k.lt
    clear hp2 hp1 c0 c1 x1 x2 HX HC1 HC2
    go_wp2_with fail
    refine (HT.out wc).mono ?_
    rintro e w2 ⟨rfl, rfl⟩
    have hpt := HP2.out.k.alloc (.cells (litR 10 20).toArray 52)
    have q0 := hpt.cell 0 _ rfl
    have q1 := hpt.cell 1 _ rfl
    have HBT := Lib.hid (below_a1 wc (.cells (litR (T : Int) (Tau : Int)).toArray 52))
    have KT := Lib.hid (BlkL.new wc (litR (T : Int) (Tau : Int)) 52)
    have K2 := Lib.hid (HP2.out.k.alloc (.cells (litR (T : Int) (Tau : Int)).toArray 52))
    clear x0 x9 HT hpt
    go_wp2_with fail
    refine (HN.out _ _ (rlit_arg KT.out)).mono ?_
    rintro e w3 ⟨xa, A1, c1, ma, rfl, hxa, hma, hb3⟩
    have HB3 := Lib.hid ((HP2.out.b.trans (HBT.out.mono HP2.out.b.size)).trans (hb3.mono (by have := HP2.out.b.size; simp; omega)))
    have HXa := Lib.hid hxa
    have HMa := Lib.hid (show w.heap.size ≤ ma by simp at hma; omega)
    have k3 := K2.out.below hb3
    have K3 := Lib.hid k3
    clear hb3 hxa hma q0 q1 KT K2 HBT HP2 HN k3
    go_upto_region 7 with (fail)
    go_cut [2, 3] (fun s2 s3 wx => s2 = .int .i64 (f : Int) ∧ s3 = .int .i64 (t : Int) ∧ Below w3.heap.size w3 wx)
    case first =>
      obtain ⟨hf, ht⟩ := HYZ.out
      rcases Nat.lt_trichotomy F G with hFG | rfl | hFG
      all_goals
        go_wp2_with fail
        with_reducible refine (HC3.out _).mono ?_
        rintro e w4 ⟨rfl, hb4⟩
        have HB4 := Lib.hid hb4
        clear hb4
        go_wp2_with fail
        with_reducible refine (HC4.out _).mono ?_
        rintro e w5 ⟨rfl, hb5⟩
        have HB5 := Lib.hid (HB4.out.trans (hb5.mono HB4.out.size))
        clear hb5 HB4
        go_wp2_with fail
        with_reducible refine (HC3.out _).mono ?_
        rintro e w6 ⟨rfl, hb6⟩
        have HB6 := Lib.hid (HB5.out.trans (hb6.mono HB5.out.size))
        clear hb6 HB5
        go_wp2_with fail
        with_reducible refine (HC4.out _).mono ?_
        rintro e w7 ⟨rfl, hb7⟩
        have HB7 := Lib.hid (HB6.out.trans (hb7.mono HB6.out.size))
        clear hb7 HB6
        go_wp2_with fail
        go_meet
        exact ⟨by first | rfl | (congr 1; omega), by first | rfl | (congr 1; omega), HB7.out⟩
    case rest =>
    obtain ⟨rfl, rfl, hb7⟩ := hcut
    rename_i w7
    have HB7 := Lib.hid hb7
    clear hb7 HC3 HC4
    have k7 := K3.out.below HB7.out
    have q0 := k7.cell 0 _ rfl
    have q1 := k7.cell 1 _ rfl
    have hft := HFT.out.1
    have htt := HFT.out.2
    clear k7
    go_wp2_with fail
    with_reducible refine (HWI.out _).mono ?_
    rintro e w8 ⟨rfl, hb8⟩
    have hap0 : RtR w w8 T Tau f t xa ma A1 c1 0 0 (withV T Tau (t - f)) :=
      ⟨(HB3.out.trans (HB7.out.mono HB3.out.size)).trans (hb8.mono (Nat.le_trans HB3.out.size HB7.out.size)), HMa.out, Nat.zero_le _, HLF.out, ⟨0, _, (HXa.out.below HB7.out).below hb8, Nat.le_refl _, RtI.start⟩⟩
    have HAp := Lib.hid hap0
    clear hap0 hb8 q0 q1 HXa HMa HB3 HB7 K3 HWI hft htt hlt2
    go_wp2_with fail
    go_loopw [12, 14, 64] (fun lv nv iv wr => ∃ j nl Lf : Nat, j ≤ n0 ∧ j ≤ 150 ∧ iv = .int .i64 (j : Int) ∧ nv = .int .i64 (nl : Int) ∧ lv = .int .i64 (Lf : Int) ∧ RtR w wr T Tau f t xa ma A1 c1 j nl Lf) (fun _ _ iv _ => n0 - (intOf iv).toNat)
    case atStart => exact ⟨0, 0, _, Nat.zero_le _, Nat.zero_le _, rfl, rfl, rfl, HAp.out⟩
    case round =>
      obtain ⟨j, nl, Lf, hj, hj150, rfl, rfl, rfl, hap⟩ := hrel
      have hnl := hap.nw
      have hlf := hap.lf
      have HP := Lib.hid hap
      clear hap HAp
      rcases Nat.lt_or_ge j n0 with h1 | h1
      · have hln := HSC.out.len
        have hkk := HSC.out.key _ (ask_mem (l := sc) (i := j) (by omega))
        obtain ⟨b, off, rfl, hbB, hcc⟩ := ((HSC.out.below HP.out.low).arg).at_ (by omega)
        have hf := fun t ht => FA_at sc j t (by omega) ht
        have e0 := (hcc (j * 6) (by omega)).trans (hf 0 (by omega))
        have e1 := (hcc (j * 6 + 1) (by omega)).trans (hf 1 (by omega))
        have e2 := (hcc (j * 6 + 2) (by omega)).trans (hf 2 (by omega))
        have e3 := (hcc (j * 6 + 3) (by omega)).trans (hf 3 (by omega))
        have e4 := (hcc (j * 6 + 4) (by omega)).trans (hf 4 (by omega))
        have e5 := (hcc (j * 6 + 5) (by omega)).trans (hf 5 (by omega))
        clear hcc hf hln hbB
        generalize sc.getD j noAsk = a at hkk e0 e1 e2 e3 e4 e5
        obtain ⟨aop, aq, aA, an, ac, azs, aN, anow, asr⟩ := a
        simp only [AskV.cells, List.getElem?_cons_zero, List.getElem?_cons_succ] at e0 e1 e2 e3 e4 e5 hkk
        have e1 : wr.cell? ⟨b, off + j * 6 + 1, none⟩ = some (.int .i64 aq) := e1
        have e2 : wr.cell? ⟨b, off + j * 6 + 2, none⟩ = some (.slice aA an ac) := e2
        have e3 : wr.cell? ⟨b, off + j * 6 + 3, none⟩ = some (.int .i64 aN) := e3
        have e4 : wr.cell? ⟨b, off + j * 6 + 4, none⟩ = some (.int .i64 anow) := e4
        have e5 : wr.cell? ⟨b, off + j * 6 + 5, none⟩ = some (.int .i64 asr) := e5
        rcases Nat.lt_or_ge j 150 with h2 | h2
        · have hF := fit16_any (wr.alloc (.cells #[.int .u8 (aop : Nat), .int .i64 aq, .slice aA an ac, .int .i64 aN, .int .i64 anow, .int .i64 asr] 39)) aop aq aN anow asr aA an ac hkk.2.o1 hkk.2.N1 hkk.2.w1 hkk.2.s1 hkk.1.le
          obtain ⟨nw, hnw⟩ : ∃ nw : Nat, clampV anow = (nw : Int) := ⟨(clampV anow).toNat, by unfold clampV; split <;> (try split) <;> omega⟩
          have hnw2 : nw ≤ 4611686018427387903 := by have : isTick (clampV anow) = true := tick_clamp anow; rw [hnw] at this; have := isTick_iff.1 this; omega
          rw [hnw] at hF
          have hoo := fitOp6_le aop
          obtain ⟨o, hoe⟩ : ∃ o, o = fitOp6 aop := ⟨_, rfl⟩
          rw [← hoe] at hF hoo
          obtain ⟨p, hpe⟩ : ∃ p, p = fitQ o aN := ⟨_, rfl⟩
          rw [← hpe] at hF
          obtain ⟨N', hNe⟩ : ∃ N', N' = fitN o aN := ⟨_, rfl⟩
          rw [← hNe] at hF
          obtain ⟨s', hse⟩ : ∃ s', s' = fitS asr := ⟨_, rfl⟩
          rw [← hse] at hF
          obtain ⟨m, hme⟩ : ∃ m, m = min an 2 := ⟨_, rfl⟩
          rw [← hme] at hF
          obtain ⟨nx, hnx⟩ : ∃ nx, nx = max nl nw := ⟨_, rfl⟩
          have m1 : (if nl < nw then (nw : Int) else (nl : Int)) = (nx : Int) := by split <;> omega
          have HMX := Lib.hid m1
          have HNX := Lib.hid (show nl ≤ nx ∧ nx ≤ 4611686018427387903 by omega)
          have HF := Lib.hid hF
          have HV := Lib.hid (And.intro hoe (And.intro hpe (And.intro hNe (And.intro hse (And.intro hme hoo)))))
          have HKK := Lib.hid hkk
          clear hF hoe hpe hNe hse hme hnw hnw2 hoo hkk m1 hnx
          go_wp2_with fail
          refine HF.out.mono ?_
          rintro e w5 ⟨rfl, hb5⟩
          have k0 := (BlkL.new wr [.int .u8 (aop : Nat), .int .i64 aq, .slice aA an ac, .int .i64 aN, .int .i64 anow, .int .i64 asr] 39).below hb5
          have HB5 := Lib.hid ((below_a1 wr (.cells #[.int .u8 (aop : Nat), .int .i64 aq, .slice aA an ac, .int .i64 aN, .int .i64 anow, .int .i64 asr] 39)).trans (hb5.mono (by simp)))
          clear hb5 e0 e1 e2 e3 e4 e5 HF
          have c0 := k0.cell 0 _ rfl
          have c1 := k0.cell 1 _ rfl
          have c2 := k0.cell 2 _ rfl
          have c3 := k0.cell 3 _ rfl
          have c4 := k0.cell 4 _ rfl
          have c5 := k0.cell 5 _ rfl
          have f0 := k0.froz 0 (by simp)
          have f1 := k0.froz 1 (by simp)
          have f2 := k0.froz 2 (by simp)
          have f3 := k0.froz 3 (by simp)
          have f4 := k0.froz 4 (by simp)
          have f5 := k0.froz 5 (by simp)
          have K0 := Lib.hid k0
          clear k0
          go_upto_region 17 with (fail)
          have kbx := K0.out.put6 (.int .u8 (o : Nat)) (.int .i64 (p : Nat)) (.slice aA m ac) (.int .i64 N') (.int .i64 (nw : Nat)) (.int .i64 s')
          have hbx := below_put6 HB5.out (b := wr.heap.size) (Nat.le_refl _) (.int .u8 (o : Nat)) (.int .i64 (p : Nat)) (.slice aA m ac) (.int .i64 N') (.int .i64 (nw : Nat)) (.int .i64 s')
          clear c0 c1 c2 c3 c4 c5 f0 f1 f2 f3 f4 f5 K0 HB5
          generalize World.setCell _ _ _ = WB at kbx hbx ⊢
          have c0 := kbx.cell 0 _ rfl
          have c1 := kbx.cell 1 _ rfl
          have c2 := kbx.cell 2 _ rfl
          have c3 := kbx.cell 3 _ rfl
          have c4 := kbx.cell 4 _ rfl
          have c5 := kbx.cell 5 _ rfl
          have m1 := HMX.out
          have HBX := Lib.hid (And.intro kbx hbx)
          clear kbx hbx HMX
          go_upto_region 18 with (fail)
          obtain ⟨hoe, hpe, hNe, hse, hme, hoo⟩ := HV.out
          obtain ⟨ka, M, hA, hka, hI⟩ := HP.out.st
          have hkA := ((HKK.out.1.below HP.out.low).below (HBX.out.2.mono HP.out.low.size)).more (Nat.le_trans HP.out.low.size HBX.out.2.size)
          have HDo := Lib.hid (book_fit (hA.below HBX.out.2) o p m ac nx aA (azs.take m) N' s' hoo (by subst hpe; exact fitQ_lt o aN) (by subst hpe; exact fit_kind o aN hoo (tabR T Tau) rfl rfl) (hkA.to2 m (by omega)) (by omega) (by subst hNe; exact fitN_tick o aN) HNX.out.2 (by subst hse; exact fitS_ge asr) (by omega))
          have HM := Lib.hid (And.intro hka (And.intro hI (And.intro (tat_le hA) hA)))
          clear hkA hoe hpe hNe hse hme hoo hA hka hI m1
          go_wp2_with fail
          refine HDo.out.mono ?_
          rintro e w6 ⟨ra, k1, rfl, hA6, hk1, hra, ho6⟩
          obtain ⟨esm, ckm, hmm⟩ : ∃ es ck, WB.heap[ma]? = some (.map es ck) := by obtain ⟨D, hd1, _⟩ := (HM.out.2.2.2.below HBX.out.2).e; exact own_map hd1
          have HA6 := Lib.hid hA6
          have HR6 := Lib.hid (And.intro hk1 hra)
          have kb6 := HBX.out.1.off ho6 (by simpa using cell_ne_map (p := ⟨wr.heap.size, 0, none⟩) (HBX.out.1.cell 0 _ rfl) hmm)
          have hb6 : Off [ma] wr w6 := (Off.of_below HBX.out.2).trans ho6
          have hlow6 : Below w.heap.size w w6 := HP.out.low.trans (hb6.below HP.out.low.size (by rintro x hx; rw [List.mem_singleton] at hx; rw [hx]; exact HP.out.ga))
          clear hA6 hk1 hra hmm HDo ho6 hb6 HBX c0 c1 c2 c3 c4 c5
          have kb7 := kb6.below (below_a1 w6 (.cells #[.int .i64 ra.e, .bool ra.g, .int .i64 ra.l, .int .i64 ra.wt, .int .i64 ra.s, .int .i64 ra.now] 42))
          have c0 := kb7.cell 0 _ rfl
          have c1 := kb7.cell 1 _ rfl
          have c2 := kb7.cell 2 _ rfl
          have c3 := kb7.cell 3 _ rfl
          have c4 := kb7.cell 4 _ rfl
          have c5 := kb7.cell 5 _ rfl
          have ky7 := BlkL.new w6 [.int .i64 ra.e, .bool ra.g, .int .i64 ra.l, .int .i64 ra.wt, .int .i64 ra.s, .int .i64 ra.now] 42
          have g1 := ky7.cell 1 _ rfl
          have HLow := Lib.hid (hlow6.trans ((below_a1 w6 (.cells #[.int .i64 ra.e, .bool ra.g, .int .i64 ra.l, .int .i64 ra.wt, .int .i64 ra.s, .int .i64 ra.now] 42)).mono hlow6.size))
          have HA7 := Lib.hid (HA6.out.below (below_a1 w6 (.cells #[.int .i64 ra.e, .bool ra.g, .int .i64 ra.l, .int .i64 ra.wt, .int .i64 ra.s, .int .i64 ra.now] 42)))
          have hkA := (((HKK.out.1.below HLow.out).more HLow.out.size)).to2 m (by have := HV.out.2.2.2.2.1; omega)
          clear kb6 hlow6 HA6 kb7 ky7
          have hq23 : o = 2 ∨ o = 3 → p = 1 := fun h => by
            rw [HV.out.2.1]
            unfold fitQ
            rw [if_pos (by rcases h with h | h <;> simp [h])]
          have hp01 : o = 1 → p = 0 := fun h => by
            rw [HV.out.2.1]
            unfold fitQ
            rw [if_neg (by subst h; simp)]
          have hfin : ∀ Lf' : Nat, Lf' ≤ 9223372036854775807 → RtI T Tau f t (actM (tabR T Tau) M o p (azs.take m) N' nx s') nx Lf' → RtR w (w6.alloc (.cells #[.int .i64 ra.e, .bool ra.g, .int .i64 ra.l, .int .i64 ra.wt, .int .i64 ra.s, .int .i64 ra.now] 42)) T Tau f t xa ma A1 _ (j + 1) nx Lf' :=
            fun Lf' h h' => ⟨HLow.out, HP.out.ga, HNX.out.2, h, ⟨k1, _, HA7.out, by have := HR6.out.1; have := HM.out.1; omega, h'⟩⟩
          have hoth : ¬ (o = 1 ∧ p :: azs.take m = [0, 97]) → RtI T Tau f t (actM (tabR T Tau) M o p (azs.take m) N' nx s') nx Lf := fun h => HM.out.2.1.stay HNX.out.1 (Nat.le_of_eq (tat_other o p _ N' s' nx hq23 h).symm)
          have HFin := Lib.hid hfin
          have HOth := Lib.hid hoth
          have HKA := Lib.hid hkA
          have HQ := Lib.hid hp01
          clear hq23 hp01 hfin hoth hkA
          by_cases ho1 : o = 1
          · have d1 : ((o : Int) == 1) = true := by rw [ho1]; rfl
            by_cases hm1 : m = 1
            · have dm : ((m : Int) == 1) = true := by rw [hm1]; rfl
              obtain ⟨kb, koff, rfl, hkb, hkc⟩ := HKA.out.at_ (by omega)
              have hk0 := hkc 0 (by omega)
              have hlen := HKA.out.len
              have hm0 : (0 : Int) < (m : Int) := by omega
              have hm0' : 0 < m := by omega
              obtain ⟨x, hx⟩ : ∃ x, azs.take m = [x] := by
                match hh : azs.take m, hlen with
                | [x], _ => exact ⟨x, rfl⟩
                | [], e => simp at e; omega
                | _ :: _ :: _, e => simp at e; omega
              rw [hx] at hk0
              simp only [Nat.add_zero, List.getD_cons_zero] at hk0
              have HX1 := Lib.hid hx
              have HO1 := Lib.hid (And.intro ho1 hm1)
              clear ho1 hm1 hx hkc hlen
              by_cases hx97 : x = 97
              · have dx : ((x : Int) == 97) = true := by rw [hx97]; rfl
                have HX2 := Lib.hid hx97
                clear hx97
                obtain ⟨nn, hnn, hnb⟩ := clamp_nat aN
                obtain rfl : N' = (nn : Int) := by rw [HV.out.2.2.1, HO1.out.1]; unfold fitN; rw [if_pos rfl]; exact hnn
                have hp0 := HQ.out HO1.out.1
                have hrg : ra.g = grB T Tau (tatK M) nx nn := by
                  have := congrArg RepM.g (HR6.out.2 (by have := HO1.out.1; omega))
                  rw [HO1.out.1, hp0, HX1.out, HX2.out, rep_allow] at this
                  exact this
                have htk : tatK (actM (tabR T Tau) M o p (azs.take m) (nn : Int) nx s') = tatV T Tau (tatK M) nx nn := by
                  rw [HO1.out.1, hp0, HX1.out, HX2.out, tat_allow]
                have HRG := Lib.hid hrg
                have HTK := Lib.hid htk
                have HST := Lib.hid (show RtI T Tau f t (actM (tabR T Tau) M o p (azs.take m) (nn : Int) nx s') nx Lf from HM.out.2.1.stay HNX.out.1 (by rw [htk]; have := tat_mono T Tau (tatK M) nx nn; omega))
                clear hp0 hrg htk hnn
                obtain ⟨re, rg, rl, rt, rs, rn⟩ := ra
                dsimp only at c0 c1 c2 c3 c4 c5 g1 hk0
                rcases rg with _ | _
                · go_wp2
                  go_roundw
                  case rel => exact ⟨j + 1, nx, Lf, by omega, by omega, by push_cast; rfl, rfl, rfl, HFin.out Lf hlf HST.out⟩
                  case measure => simp [intOf]; omega
                · have HGB := Lib.hid (show grB T Tau (tatK M) nx nn = true from HRG.out.symm)
                  rcases Nat.lt_or_ge nx f with q1 | q1
                  · go_wp2
                    go_roundw
                    case rel => exact ⟨j + 1, nx, Lf, by omega, by omega, by push_cast; rfl, rfl, rfl, HFin.out Lf hlf HST.out⟩
                    case measure => simp [intOf]; omega
                  · rcases Nat.lt_or_ge t nx with q2 | q2
                    · go_wp2
                      go_roundw
                      case rel => exact ⟨j + 1, nx, Lf, by omega, by omega, by push_cast; rfl, rfl, rfl, HFin.out Lf hlf HST.out⟩
                      case measure => simp [intOf]; omega
                    · have htake := HM.out.2.1.take HTT.out.1 HM.out.2.2.1 HNX.out.2 HNX.out.1 HGB.out q1 q2 HTK.out
                      have hle := htake.1
                      have HTA := Lib.hid htake.2
                      clear htake
                      go_wp2
                      go_roundw
                      case rel => exact ⟨j + 1, nx, Lf - nn, by omega, by omega, by push_cast; rfl, rfl, by rw [show ((Lf - nn : Nat) : Int) = (Lf : Int) - nn by omega], HFin.out (Lf - nn) (by omega) HTA.out⟩
                      case measure => simp [intOf]; omega
              · have dx : ((x : Int) == 97) = false := beq_eq_false_iff_ne.2 (by omega)
                go_wp2
                go_roundw
                case rel => exact ⟨j + 1, nx, Lf, by omega, by omega, by push_cast; rfl, rfl, rfl, HFin.out Lf hlf (HOth.out (by rintro ⟨_, e⟩; rw [HX1.out] at e; simp at e; exact hx97 e.2))⟩
                case measure => simp [intOf]; omega
            · have dm : ((m : Int) == 1) = false := beq_eq_false_iff_ne.2 (by omega)
              have HL := Lib.hid HKA.out.len
              go_wp2
              go_roundw
              case rel => exact ⟨j + 1, nx, Lf, by omega, by omega, by push_cast; rfl, rfl, rfl, HFin.out Lf hlf (HOth.out (by rintro ⟨_, e⟩; have := HL.out; have e2 := (List.cons.inj e).2; rw [e2] at this; simp at this; omega))⟩
              case measure => simp [intOf]; omega
          · have d1 : ((o : Int) == 1) = false := beq_eq_false_iff_ne.2 (by omega)
            go_wp2
            go_roundw
            case rel => exact ⟨j + 1, nx, Lf, by omega, by omega, by push_cast; rfl, rfl, rfl, HFin.out Lf hlf (HOth.out (fun h => ho1 h.1))⟩
            case measure => simp [intOf]; omega
        · have hlow := HP.out.low.trans ((below_a1 wr (.cells #[.int .u8 (aop : Nat), .int .i64 aq, .slice aA an ac, .int .i64 aN, .int .i64 anow, .int .i64 asr] 39)).mono HP.out.low.size)
          have HLw := Lib.hid hlow
          clear hlow
          go_wp2
          go_ret
          exact ⟨rfl, HLw.out⟩
      · obtain rfl : j = n0 := by omega
        go_wp2
        go_ret
        exact ⟨rfl, HP.out.low⟩
end Go.Proofs.Ytnkecjjfbllgdaa
