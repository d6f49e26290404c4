/- The law MachOnes: its walk. -/
import Derived.Test.YtddadlomkodgcaaMoM
import Derived.BigRegion
import Derived.Deep.QuietTactic
import Derived.BigQuiet
import Derived.Outline
namespace Go.Proofs.Ytddadlomkodgcaa
open Go.RowKit
set_option maxRecDepth 100000
set_option linter.unusedVariables false

def MoInv (w : World) (b bw bs n m : Nat) (cv iv : Value) (wr : World) : Prop :=
  ∃ i k ws clk, i ≤ m ∧ i ≤ 200 ∧ iv = .int .i64 ((i : Nat) : Int) ∧ cv = .int .i64 ((clk : Nat) : Int) ∧ MoS w b bw bs n wr i k ws ws clk
set_option maxHeartbeats 12800000 in
theorem machOnes_walk (wd : Int) (A : Option Addr) (m d : Nat) (l : List OpV) (w : World) (hl0 : 0 ≤ wd) (hl1 : wd ≤ 255) (h : ArgC w w.heap.size 6 A m d (FO l)) (hd : d ≤ 2932031007402) (hpk : okOps l) :
    Calls Try.prog 4 #[.int .u8 wd, .slice A m d] w (ValEnd w (.bool true)) := by
  have hle := h.le
  have HAG := Lib.hid h
  have HPK := Lib.hid hpk
  obtain ⟨n, hn⟩ : ∃ n : Nat, (n : Int) = 1 + wd % 8 := ⟨(1 + wd % 8).toNat, by omega⟩
  have hn8 : n ≤ 8 := by omega
  have hn1 : 1 ≤ n := by omega
  obtain ⟨i0, hi, hz0, hz1, hz2⟩ := info_parts u64_inf
  clear h hpk
  go_enter Try.func4, Try.ntmps4
  go_wp2_with fail
  with_reducible refine (awake11_any _).mono ?_
  rintro e w1 ⟨rfl, hB⟩
  have HB1 := Lib.hid hB
  have hs1 := hB.size
  clear hB
  have hnw := mnew_ok w1 n hn1 (by omega)
  have HN := Lib.hid hnw
  clear hnw
  go_wp2_with fail
  rw [← hn]
  clear hn
  with_reducible refine HN.out.mono ?_
  rintro e w2 ⟨b, bw, ring, rfl, hb, hbw, hm, hB⟩
  have hs2 := hB.size
  have B2 := HB1.out.trans (hB.mono hs1)
  have k2 := BlkL.new w2 (List.replicate n (.int .u64 0)) 31
  have hbl := hm.blk.lt
  have hbwl := hm.wd.lt
  have S0 : Hid (MoS w b bw w2.heap.size n (w2.alloc (.cells (List.replicate n (.int .u64 0)).toArray 31)) 0 0 (List.replicate n 0) (List.replicate n 0) 0) :=
    Lib.hid ⟨⟨ring, hm.alloc _⟩, by rw [← rep_map]; exact k2, by simp, Nat.le_refl _, Nat.zero_le _, B2.alloc (by omega) _, by omega, by omega, by omega, by omega, by omega⟩
  clear k2 B2 hB hm
  go_wp2_with (refine wpList_make_row _ rfl (.tmp 42) (.tmp 42) _ rfl 31 i0 (.int .u64 0) Try.underlying39 hi hz0 hz1 rfl .i64 .i64 n rfl rfl (by rw [hz2]; omega) (by omega) ?_)
  rw [made_eq]
  have hsz : (w2.alloc (.cells (List.replicate n (.int .u64 0)).toArray 31)).heap.size = w2.heap.size + 1 := by simp
  generalize hw3 : w2.alloc (.cells (List.replicate n (.int .u64 0)).toArray 31) = w3 at *
  clear hi hz0 hz1 hz2
  clear hw3
  go_wp2
  go_loopw [9, 46] (fun cv iv wr => MoInv w b bw w2.heap.size n m cv iv wr) (fun _ iv _ => m - (intOf iv).toNat)
  case atStart => exact ⟨0, 0, _, 0, Nat.zero_le _, by omega, rfl, rfl, S0.out⟩
  case round =>
    obtain ⟨i, k, ws, clk, hi, hi3, rfl, rfl, st⟩ := hrel
    clear S0 hsz
    rcases Nat.lt_or_ge i m with hin | hin
    · obtain ⟨bb, off, eA, hbb, hcc⟩ := op_at (HAG.out.below st.bel) hin
      have hx := okOps_at HPK.out i
      subst eA
      have hbs := st.bel.size
      generalize l.getD i noOp = x at hcc hx
      have q0 := hcc 0 (by omega)
      have q1 := hcc 1 (by omega)
      have q2 := hcc 2 (by omega)
      have q3 := hcc 3 (by omega)
      have q4 := hcc 4 (by omega)
      have q5 := hcc 5 (by omega)
      clear hcc
      obtain ⟨xk, xwho, xword, xold, xnew, xn⟩ := x
      simp only [OpV.cells, List.getElem?_cons_zero, List.getElem?_cons_succ, Nat.add_zero] at q0 q1 q2 q3 q4 q5
      have hold := hx.old0
      have hnew := hx.new0
      have hkd := hx.k0
      have hn1' := hx.n1
      simp only at hold hnew hkd hn1'
      obtain ⟨ol, rfl⟩ := Int.eq_ofNat_of_zero_le hold
      obtain ⟨nw, rfl⟩ := Int.eq_ofNat_of_zero_le hnew
      have j0 : (0 : Int) ≤ (i : Int) := by omega
      have j1 : (i : Int) < (m : Int) := by omega
      have hbb2 : bb < wr.heap.size := by omega
      rcases Nat.lt_or_ge i 200 with h3 | h3
      · have h3' : ¬ (200 : Int) ≤ (i : Int) := by omega
        have hwq := pickV_eq xwho (n := 64) (by omega) (by omega)
        rw [show ((64 : Nat) : Int) = 64 from rfl] at hwq
        have hwl := pickV_lt xwho (n := 64) (by omega)
        have hjq := pickV_eq xword (n := n) (by omega) (by omega)
        have hjl := pickV_lt xword (n := n) (by omega)
        generalize pickV xwho 64 = q at hwq hwl
        generalize pickV xword n = j at hjq hjl
        have hnw : IntKind.u64.wrap (n : Int) = (n : Int) := by rw [u64w]; omega
        have hnz : ¬ (n : Int) = 0 := by omega
        clear hx
        go_wp2
        go_region
        have st1 := (st.alloc (.cells #[.int .u8 xk, .int .i64 (q : Int), .int .i64 (j : Int), .int .u64 (ol : Int), .int .u64 (nw : Int), .int .i64 xn] 33)).drew
        have k1 := (BlkL.new wr [.int .u8 xk, .int .i64 (q : Int), .int .i64 (j : Int), .int .u64 (ol : Int), .int .u64 (nw : Int), .int .i64 xn] 33).drew
        obtain ⟨hbl1, hbw1, hbs1⟩ := st.lts
        have hz3 : wr.heap.size ∉ [b, bw] := by simp; omega
        have HCn := Lib.hid (mcount_eq _ b bw n ws _ k st1.m (k : Int) rfl)
        have hkk : k < 9223372036854775807 := by have := st.ki; omega
        have hclk := st.cl
        have K1 := Lib.hid k1
        have ST1 := Lib.hid st1
        have hzl := k1.lt
        clear st st1 k1 q0 q1 q2 q3 q4 q5
        go_wp2_with fail
        with_reducible refine HCn.out.mono ?_
        rintro e w4 ⟨rfl, hw⟩
        subst hw
        have hk4 : xk % 4 = 0 ∨ xk % 4 = 1 ∨ xk % 4 = 2 ∨ xk % 4 = 3 := by omega
        rcases hk4 with hk4 | hk4 | hk4 | hk4
        · skip
          obtain ⟨rg, hm⟩ := ST1.out.m
          have HL := Lib.hid (load_ok _ b bw n ws clk k rg hm hkk q j (inB_of hwl) hjl)
          clear hm
          go_wp2_with fail
          with_reducible refine HL.out.mono ?_
          rintro e w4 ⟨rfl, hm4, hf⟩
          have hf2 := hf.mono (S' := [b, bw]) (by simp)
          have ST := Lib.hid (ST1.out.acc (k' := k + 1) ⟨_, hm4⟩ (Nat.le_refl _) hf2 hclk)
          have k4 := K1.out.off hf2 hz3
          have c2 := k4.cell 2 _ rfl
          have u0 := ST.out.uat hjl
          have ul := ST.out.was.lt
          have HCm := Lib.hid (mcount_eq _ b bw n ws _ (k + 1) ⟨_, hm4⟩ ((k : Int) + 1) (by omega))
          have jn0 : (0 : Int) ≤ (j : Int) := by omega
          have jn1 : (j : Int) < (n : Int) := by omega
          clear hm4 hf hf2 HL HCn
          go_wp2_with fail
          with_reducible refine HCm.out.mono ?_
          rintro e w5 ⟨rfl, hw⟩
          subst hw
          clear u0 ul c2 jn0 jn1
          clear k4
          go_wp2
          go_loopw [196] (fun jv wx => ∃ jj : Nat, jj ≤ n ∧ jv = .int .i64 ((jj : Nat) : Int) ∧ wx = w4) (fun jv _ => n - (intOf jv).toNat)
          case atStart => exact ⟨0, Nat.zero_le _, rfl, rfl⟩
          case round =>
            obtain ⟨jj, hj2, rfl, hwx⟩ := hrel
            subst hwx
            rcases Nat.lt_or_ge jj n with hjn | hjn
            · have HWd := Lib.hid (word_eq _ b bw n ws _ _ ST.out.m jj hjn _ rfl)
              have u0 := ST.out.uat hjn
              have jn0 : (0 : Int) ≤ (jj : Int) := by omega
              have jn1 : (jj : Int) < (n : Int) := by omega
              have ul := ST.out.was.lt
              go_wp2_with fail
              with_reducible refine HWd.out.mono ?_
              rintro e w6 ⟨rfl, hw⟩
              subst hw
              go_wp2
              go_roundw
              case rel => exact ⟨jj + 1, by omega, by go_num, by trivial⟩
              case measure => simp [intOf]; omega
            · obtain rfl : jj = n := by omega
              have jn1 : ¬ (jj : Int) < (jj : Int) := by omega
              go_wp2
              go_roundw
              case rel => exact ⟨i + 1, k + 1, ws, clk, by omega, by omega, by go_num, rfl, ST.out⟩
              case measure => simp [intOf]; omega
        · by_cases hso : ws.getD j 0 = ol
          · skip
            obtain ⟨rg, hm⟩ := ST1.out.m
            have HL := Lib.hid (swap_ok _ b bw n ws clk k rg hm hkk q j ol nw (inB_of hwl) hjl)
            rw [if_pos hso, decide_eq_true hso] at HL
            clear hm
            go_wp2_with fail
            with_reducible refine HL.out.mono ?_
            rintro e w4 ⟨rfl, hm4, hf⟩
            have STc := Lib.hid (ST1.out.acc (k' := k + 1) ⟨_, hm4⟩ (Nat.le_refl _) hf hclk)
            have k4 := K1.out.off hf hz3
            have c2 := k4.cell 2 _ rfl
            have c3 := k4.cell 3 _ rfl
            have cl4 := k4.lt
            have u0 := STc.out.uat hjl
            have ul := STc.out.was.lt
            have HCm := Lib.hid (fun t => mcount_q w4 b bw n _ _ (k + 1) STc.out.m ((k : Int) + 1) (by omega) t)
            have jn0 : (0 : Int) ≤ (j : Int) := by omega
            have jn1 : (j : Int) < (n : Int) := by omega
            rw [hso] at u0
            have K4 := Lib.hid k4
            clear hm4 hf HL HCn k4
            go_wp2_with fail
            go_quiet (first | (go_at_call 15; with_reducible exact Calls.quiet_of_same (HCm.out _)))
            all_goals
              have ST := Lib.hid (STc.out.drewN nq)
              have k4 := Lib.hid (K4.out.drewN nq)
              clear u0 ul c2 c3 cl4 jn0 jn1
              go_wp2
              go_loopw [196] (fun jv wx => ∃ (jj : Nat) (us : List Nat), jj ≤ n ∧ jv = .int .i64 ((jj : Nat) : Int) ∧ us = (if j < jj then ws.set j nw else ws) ∧ MoS w b bw w2.heap.size n wx (i + 1) (k + 1) (ws.set j nw) us clk ∧ BlkL wx wr.heap.size [.int .u8 xk, .int .i64 (q : Int), .int .i64 (j : Int), .int .u64 (ol : Int), .int .u64 (nw : Int), .int .i64 xn]) (fun jv _ => n - (intOf jv).toNat)
              case atStart => exact ⟨0, ws, Nat.zero_le _, rfl, by rw [if_neg (by omega)], ST.out, k4.out⟩
              case round =>
                obtain ⟨jj, us, hj2, rfl, hus, st5, k5⟩ := hrel
                have hwl2 := st5.ul
                rcases Nat.lt_or_ge jj n with hjn | hjn
                · have u0 := st5.uat hjn
                  have uf := st5.uf hjn
                  have jn0 : (0 : Int) ≤ (jj : Int) := by omega
                  have jn1 : (jj : Int) < (n : Int) := by omega
                  have ul := st5.was.lt
                  have c2 := k5.cell 2 _ rfl
                  have c4 := k5.cell 4 _ rfl
                  have cl5 := k5.lt
                  have ST5 := Lib.hid st5
                  have K5 := Lib.hid k5
                  have hwsl : ws.length = n := by obtain ⟨rg, hm⟩ := st5.m; have := hm.len; simpa using this
                  by_cases hjj : jj = j
                  · subst hjj
                    have eus : us = ws := by rw [hus, if_neg (by omega)]
                    have ST6 := Lib.hid (ST5.out.put hjn nw)
                    have K6 := Lib.hid (K5.out.other w2.heap.size jj (.int .u64 (nw : Int)) (by omega))
                    have HWd := Lib.hid (word_eq _ b bw n _ _ _ ST5.out.m jj hjn nw (by rw [getD_set _ _ _ _ _ (by omega), if_pos rfl]))
                    clear st5 k5
                    go_wp2_with fail
                    with_reducible refine HWd.out.mono ?_
                    rintro e w6 ⟨rfl, hw⟩
                    subst hw
                    go_wp2
                    go_roundw
                    case rel => exact ⟨jj + 1, us.set jj nw, by omega, by go_num, by rw [if_pos (by omega), eus], ST6.out, K6.out⟩
                    case measure => simp [intOf]; omega
                  · have hjj2 : ¬ (jj : Int) = (j : Int) := by omega
                    have HWd := Lib.hid (word_eq _ b bw n _ _ _ ST5.out.m jj hjn (us.getD jj 0) (by
                      rw [hus]; split
                      · rfl
                      · rw [getD_set _ _ _ _ _ (by omega), if_neg (by omega)]))
                    clear st5 k5
                    go_wp2_with fail
                    with_reducible refine HWd.out.mono ?_
                    rintro e w6 ⟨rfl, hw⟩
                    subst hw
                    go_wp2
                    go_roundw
                    case rel => exact ⟨jj + 1, us, by omega, by go_num, by rw [hus]; split <;> split <;> first | rfl | omega, ST5.out, K5.out⟩
                    case measure => simp [intOf]; omega
                · obtain rfl : jj = n := by omega
                  have jn1 : ¬ (jj : Int) < (jj : Int) := by omega
                  rw [if_pos hjl] at hus
                  subst hus
                  have ST5 := Lib.hid st5
                  clear st5 k5
                  go_wp2
                  go_roundw
                  case rel => exact ⟨i + 1, k + 1, _, clk, by omega, by omega, by go_num, rfl, ST5.out⟩
                  case measure => simp [intOf]; omega
          · skip
            obtain ⟨rg, hm⟩ := ST1.out.m
            have HL := Lib.hid (swap_ok _ b bw n ws clk k rg hm hkk q j ol nw (inB_of hwl) hjl)
            rw [if_neg hso, decide_eq_false hso] at HL
            clear hm
            go_wp2_with fail
            with_reducible refine HL.out.mono ?_
            rintro e w4 ⟨rfl, hm4, hf⟩
            have STc := Lib.hid (ST1.out.acc (k' := k + 1) ⟨_, hm4⟩ (Nat.le_refl _) hf hclk)
            have k4 := K1.out.off hf hz3
            have c2 := k4.cell 2 _ rfl
            have c3 := k4.cell 3 _ rfl
            have cl4 := k4.lt
            have u0 := STc.out.uat hjl
            have ul := STc.out.was.lt
            have HCm := Lib.hid (fun t => mcount_q w4 b bw n _ _ (k + 1) STc.out.m ((k : Int) + 1) (by omega) t)
            have jn0 : (0 : Int) ≤ (j : Int) := by omega
            have jn1 : (j : Int) < (n : Int) := by omega
            obtain ⟨y, hy⟩ : ∃ y, ws.getD j 0 = y := ⟨_, rfl⟩
            rw [hy] at u0
            have hso2 : ((y : Int) == (ol : Int)) = false := by simp; omega
            clear hy
            have K4 := Lib.hid k4
            clear hm4 hf HL HCn k4
            go_wp2_with fail
            go_quiet (first | (go_at_call 15; with_reducible exact Calls.quiet_of_same (HCm.out _)))
            all_goals
              have ST := Lib.hid (STc.out.drewN nq)
              have k4 := K4.out.drewN nq
              generalize w4.drewN nq = w4 at *
              clear u0 ul c2 c3 cl4 jn0 jn1
              clear k4
              go_wp2
              go_loopw [196] (fun jv wx => ∃ jj : Nat, jj ≤ n ∧ jv = .int .i64 ((jj : Nat) : Int) ∧ wx = w4) (fun jv _ => n - (intOf jv).toNat)
              case atStart => exact ⟨0, Nat.zero_le _, rfl, rfl⟩
              case round =>
                obtain ⟨jj, hj2, rfl, hwx⟩ := hrel
                subst hwx
                rcases Nat.lt_or_ge jj n with hjn | hjn
                · have HWd := Lib.hid (word_eq _ b bw n ws _ _ ST.out.m jj hjn _ rfl)
                  have u0 := ST.out.uat hjn
                  have jn0 : (0 : Int) ≤ (jj : Int) := by omega
                  have jn1 : (jj : Int) < (n : Int) := by omega
                  have ul := ST.out.was.lt
                  go_wp2_with fail
                  with_reducible refine HWd.out.mono ?_
                  rintro e w6 ⟨rfl, hw⟩
                  subst hw
                  go_wp2
                  go_roundw
                  case rel => exact ⟨jj + 1, by omega, by go_num, by trivial⟩
                  case measure => simp [intOf]; omega
                · obtain rfl : jj = n := by omega
                  have jn1 : ¬ (jj : Int) < (jj : Int) := by omega
                  go_wp2
                  go_roundw
                  case rel => exact ⟨i + 1, k + 1, ws, clk, by omega, by omega, by go_num, rfl, ST.out⟩
                  case measure => simp [intOf]; omega
        · skip
          obtain ⟨rg, hm⟩ := ST1.out.m
          have HL := Lib.hid (clock_ok _ b bw n ws clk k rg hm hkk q (inB_of hwl) (by omega) (by omega))
          clear hm
          go_wp2_with fail
          with_reducible refine HL.out.mono ?_
          rintro e w4 ⟨rfl, hm4, hf⟩
          have hf2 := hf.mono (S' := [b, bw]) (by simp)
          have ST := Lib.hid (ST1.out.acc (k' := k + 1) ⟨_, hm4⟩ (Nat.le_refl _) hf2 hclk)
          have k4 := K1.out.off hf2 hz3
          have HCm := Lib.hid (mcount_eq _ b bw n ws _ (k + 1) ⟨_, hm4⟩ ((k : Int) + 1) (by omega))
          clear hm4 hf hf2 HL HCn
          go_wp2_with fail
          with_reducible refine HCm.out.mono ?_
          rintro e w5 ⟨rfl, hw⟩
          subst hw
          clear k4
          go_wp2
          go_loopw [196] (fun jv wx => ∃ jj : Nat, jj ≤ n ∧ jv = .int .i64 ((jj : Nat) : Int) ∧ wx = w4) (fun jv _ => n - (intOf jv).toNat)
          case atStart => exact ⟨0, Nat.zero_le _, rfl, rfl⟩
          case round =>
            obtain ⟨jj, hj2, rfl, hwx⟩ := hrel
            subst hwx
            rcases Nat.lt_or_ge jj n with hjn | hjn
            · have HWd := Lib.hid (word_eq _ b bw n ws _ _ ST.out.m jj hjn _ rfl)
              have u0 := ST.out.uat hjn
              have jn0 : (0 : Int) ≤ (jj : Int) := by omega
              have jn1 : (jj : Int) < (n : Int) := by omega
              have ul := ST.out.was.lt
              go_wp2_with fail
              with_reducible refine HWd.out.mono ?_
              rintro e w6 ⟨rfl, hw⟩
              subst hw
              go_wp2
              go_roundw
              case rel => exact ⟨jj + 1, by omega, by go_num, by trivial⟩
              case measure => simp [intOf]; omega
            · obtain rfl : jj = n := by omega
              have jn1 : ¬ (jj : Int) < (jj : Int) := by omega
              go_wp2
              go_roundw
              case rel => exact ⟨i + 1, k + 1, ws, clk, by omega, by omega, by go_num, rfl, ST.out⟩
              case measure => simp [intOf]; omega
        · skip
          obtain ⟨t, ht⟩ : ∃ t : Nat, (t : Int) = clampV xn := ⟨(clampV xn).toNat, by have := clampV_bd xn; omega⟩
          have htb : t ≤ 4611686018427387903 := by have := clampV_bd xn; omega
          obtain ⟨clk2, hc2⟩ : ∃ c : Nat, (c : Int) = clampV ((clk : Int) + t) := ⟨(clampV ((clk : Int) + t)).toNat, by have := clampV_bd ((clk : Int) + t); omega⟩
          have hcb2 : clk2 ≤ 4611686018427387903 := by have := clampV_bd ((clk : Int) + t); omega
          have hcge : ¬ (clk2 : Int) < (clk : Int) := by rw [hc2]; unfold clampV; split <;> (try split) <;> omega
          have hcgeN : ¬ clk2 < clk := by omega
          have HK1 := Lib.hid (fun w => rclamp_any w xn hn1')
          rw [← ht] at HK1
          have HA := Lib.hid (fun w => radd_ok w clk t hclk htb)
          rw [← hc2] at HA
          go_wp2_with fail
          with_reducible refine (HK1.out _).mono ?_
          rintro e w4 ⟨rfl, hb4⟩
          have st4 := ST1.out.below hb4
          have K4 := Lib.hid (K1.out.below hb4)
          obtain ⟨rg, hm⟩ := st4.m
          have HL := Lib.hid (tick_ok _ b bw n ws clk k rg hm (t : Int) (by omega) (by omega))
          rw [← hc2] at HL
          have ST4 := Lib.hid st4
          clear hm st4 hb4 ht hc2
          go_wp2_with fail
          with_reducible refine HL.out.mono ?_
          rintro e w5 ⟨rfl, hm4, hf⟩
          have hf2 := hf.mono (S' := [b, bw]) (by simp)
          have ST5 := Lib.hid (ST4.out.acc (k' := k) ⟨_, hm4⟩ (Nat.le_succ _) hf2 hcb2)
          have k5 := K4.out.off hf2 hz3
          have c5 := k5.cell 5 _ rfl
          have cl5 := k5.lt
          have K5 := Lib.hid k5
          clear hm4 hf hf2 HL HCn k5
          go_wp2_with fail
          with_reducible refine (HK1.out _).mono ?_
          rintro e w6 ⟨rfl, hb6⟩
          have ST6 := Lib.hid (ST5.out.below hb6)
          have K6 := Lib.hid (K5.out.below hb6)
          clear hb6 c5 cl5
          go_wp2_with fail
          with_reducible refine (HA.out _).mono ?_
          rintro e w4 ⟨rfl, hb7⟩
          have ST := Lib.hid (ST6.out.below hb7)
          have k4 := K6.out.below hb7
          have HCm := Lib.hid (mcount_eq _ b bw n ws _ k ST.out.m (k : Int) rfl)
          clear hb7
          go_wp2_with fail
          with_reducible refine HCm.out.mono ?_
          rintro e w5 ⟨rfl, hw⟩
          subst hw
          clear k4
          go_wp2
          go_loopw [196] (fun jv wx => ∃ jj : Nat, jj ≤ n ∧ jv = .int .i64 ((jj : Nat) : Int) ∧ wx = w4) (fun jv _ => n - (intOf jv).toNat)
          case atStart => exact ⟨0, Nat.zero_le _, rfl, rfl⟩
          case round =>
            obtain ⟨jj, hj2, rfl, hwx⟩ := hrel
            subst hwx
            rcases Nat.lt_or_ge jj n with hjn | hjn
            · have HWd := Lib.hid (word_eq _ b bw n ws _ _ ST.out.m jj hjn _ rfl)
              have u0 := ST.out.uat hjn
              have jn0 : (0 : Int) ≤ (jj : Int) := by omega
              have jn1 : (jj : Int) < (n : Int) := by omega
              have ul := ST.out.was.lt
              go_wp2_with fail
              with_reducible refine HWd.out.mono ?_
              rintro e w6 ⟨rfl, hw⟩
              subst hw
              go_wp2
              go_roundw
              case rel => exact ⟨jj + 1, by omega, by go_num, by trivial⟩
              case measure => simp [intOf]; omega
            · obtain rfl : jj = n := by omega
              have jn1 : ¬ (jj : Int) < (jj : Int) := by omega
              go_wp2
              go_roundw
              case rel => exact ⟨i + 1, k, ws, clk2, by omega, by omega, by go_num, rfl, ST.out⟩
              case measure => simp [intOf]; omega
      · have h3' : (200 : Int) ≤ (i : Int) := by omega
        have ST1 := Lib.hid (st.bel.alloc hbs (.cells #[.int .u8 xk, .int .i64 xwho, .int .i64 xword, .int .u64 (ol : Int), .int .u64 (nw : Int), .int .i64 xn] 33))
        go_wp2
        go_ret
        exact ⟨rfl, ST1.out⟩
    · obtain rfl : i = m := by omega
      have j1 : ¬ (i : Int) < (i : Int) := by omega
      have ST1 := Lib.hid st.bel
      clear st
      go_wp2
      go_ret
      exact ⟨rfl, ST1.out⟩
end Go.Proofs.Ytddadlomkodgcaa
