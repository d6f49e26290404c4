/- The law CountFree: its walk. -/
import Derived.Test.YtddadlomkodgcaaCfrM
import Derived.Outline
namespace Go.Proofs.Ytddadlomkodgcaa
open Go.RowKit
set_option maxRecDepth 100000
set_option linter.unusedVariables false

def CfInv (w : World) (top c b bw W n : Nat) (qv iv : Value) (wr : World) : Prop :=
  ∃ i v k calls qn, i ≤ n ∧ i ≤ 400 ∧ iv = .int .i64 ((i : Nat) : Int) ∧ qv = .int .i64 ((qn : Nat) : Int) ∧ CfS w top c b bw W wr i v k calls qn
set_option maxHeartbeats 6400000 in
theorem countFree_walk (lim wk : Int) (A : Option Addr) (n d : Nat) (zs : List Nat) (w : World) (hl0 : 0 ≤ lim) (hl1 : lim ≤ 255) (hw0 : 0 ≤ wk) (hw1 : wk ≤ 255) (h : Arg w w.heap.size A n d zs) (hd : d ≤ 140737488351232) :
    Calls Try.prog 8 #[.int .u8 lim, .int .u8 wk, .slice A n d] w (ValEnd w (.bool true)) := by
  have hle := h.le
  have HAG := Lib.hid h
  obtain ⟨top, htop⟩ : ∃ top : Nat, (top : Int) = lim % 4 := ⟨(lim % 4).toNat, by omega⟩
  obtain ⟨W, hW⟩ : ∃ W : Nat, (W : Int) = 1 + wk % 6 := ⟨(1 + wk % 6).toNat, by omega⟩
  have htop4 : top ≤ 4 := by omega
  have hW6 : W ≤ 6 := by omega
  have hW1 : 1 ≤ W := by omega
  have hWz : ¬ (W : Int) = 0 := by omega
  clear h
  go_enter Try.func8, Try.ntmps8
  go_wp2_with fail
  with_reducible refine (awake12_any _).mono ?_
  rintro e w1 ⟨rfl, hB⟩
  have HB1 := Lib.hid hB
  have hs1 := hB.size
  clear hB
  have hn := cnew_ok w1 top (by omega)
  have HN := Lib.hid hn
  clear hn
  go_wp2_with fail
  rw [← htop, ← hW]
  clear htop hW
  with_reducible refine HN.out.mono ?_
  rintro e w2 ⟨c, b, bw, rfl, hc, hb, hbw, h1, hB⟩
  have hs2 := hB.size
  have B2 := HB1.out.trans (hB.mono hs1)
  have s0 : CfS w top c b bw W w2 0 0 0 (List.replicate 64 noCall) 0 := by
    refine ⟨h1, Nat.le_refl _, Nat.zero_le _, (fun j hj => by rw [List.getD_eq_getElem?_getD, List.getElem?_replicate, if_pos hj]; exact OkCall.none_ _), ?_, B2, by omega, by omega, by omega⟩
    have := potV_le 0 (List.replicate 64 noCall) W
    omega
  have S0 := Lib.hid s0
  clear s0 B2 hB h1
  go_wp2
  go_loopw [10, 37] (fun qv iv wr => CfInv w top c b bw W n qv iv wr) (fun _ iv _ => n - (intOf iv).toNat)
  case atStart => exact ⟨0, 0, 0, _, 0, Nat.zero_le _, by omega, rfl, rfl, S0.out⟩
  case round =>
    obtain ⟨i, v, k, calls, qn, hi, hi3, rfl, rfl, st⟩ := hrel
    clear S0
    have hql : qn ≤ 2 * W := by have := st.pot; omega
    rcases Nat.lt_or_ge i n with hin | hin
    · obtain ⟨bb, off, eA, hbb, hcc⟩ := (HAG.out.below st.bel).at_ (by omega)
      have q0 := hcc i hin
      clear hcc
      have hx := HAG.out.lt i
      subst eA
      have hbs := st.bel.size
      generalize zs.getD i 0 = x at q0 hx
      have j0 : (0 : Int) ≤ (i : Int) := by omega
      have j1 : (i : Int) < (n : Int) := by omega
      have hbb2 : bb < wr.heap.size := by omega
      rcases Nat.lt_or_ge i 400 with h3 | h3
      · have h3' : ¬ (400 : Int) ≤ (i : Int) := by omega
        obtain ⟨q, hq⟩ : ∃ q : Nat, q = x % W := ⟨_, rfl⟩
        have hqW : q < W := by rw [hq]; exact Nat.mod_lt _ (by omega)
        have hwe : (x : Int) % (W : Int) = (q : Int) := by rw [hq]; omega
        have hwe2 : (x : Int).tmod (W : Int) = (q : Int) := by rw [Int.tmod_eq_emod_of_nonneg (by omega)]; exact hwe
        clear hq
        have ST := Lib.hid st
        have HPD := Lib.hid (pend_at _ c b bw top v k calls st.cnt q (by omega) _ rfl)
        have hkk : k < 9223372036854775807 := by have := st.ki; omega
        clear st
        by_cases hpo : (calls.getD q noCall).op = 0
        · rw [decide_eq_false (fun hn => hn hpo)] at HPD
          obtain ⟨op, hop⟩ : ∃ op : Nat, (op : Int) = 1 + (x : Int) / 64 % 3 := ⟨(1 + (x : Int) / 64 % 3).toNat, by omega⟩
          have ho1 : 1 ≤ op := by omega
          have ho3 : op ≤ 3 := by omega
          have HSS := Lib.hid (start_ok _ c b bw top v k calls ST.out.cnt q (by omega) op ho1 ho3 hpo)
          go_wp2_with fail
          with_reducible refine HPD.out.mono ?_
          rintro e w3 ⟨rfl, hw⟩
          subst hw
          go_wp2_with fail
          try rw [← hop]
          with_reducible refine HSS.out.mono ?_
          rintro e w3 ⟨rfl, h3, hf3⟩
          have st3 := ST.out.start hqW (by omega) hpo ho1 ho3 h3 hf3
          obtain ⟨dd, ee, nn, hC⟩ := st3.stepC hqW (by omega) (by rw [getD_set _ _ _ _ _ (by rw [ST.out.cnt.len]; omega), if_pos rfl]; show op ≠ 0; omega) hkk (by omega)
          have HC := Lib.hid hC
          clear hC st3 h3 hf3
          go_wp2_with fail
          with_reducible refine HC.out.mono ?_
          rintro e w4 ⟨rfl, v2, calls2, st4⟩
          rcases dd with _ | _
          · have st4 : CfS w top c b bw W w4 (i + 1) v2 (k + 1) calls2 (qn + 1) := st4
            have ST4 := Lib.hid (st4.alloc (.cells #[.bool false, .int .i64 ee, .int .i64 nn] 71))
            have hql2 : ¬ 2 * (W : Int) < (qn : Int) + 1 := by have := st4.pot; omega
            clear st4
            go_wp2
            go_roundw
            case rel => exact ⟨i + 1, v2, k + 1, calls2, qn + 1, by omega, by omega, by go_num, by first | rfl | (congr 1; omega), ST4.out⟩
            case measure => simp [intOf]; omega
          · have st4 : CfS w top c b bw W w4 (i + 1) v2 (k + 1) calls2 0 := st4
            have ST4 := Lib.hid (st4.alloc (.cells #[.bool true, .int .i64 ee, .int .i64 nn] 71))
            have hql2 : ¬ 2 * (W : Int) < 0 := by omega
            clear st4
            go_wp2
            go_roundw
            case rel => exact ⟨i + 1, v2, k + 1, calls2, 0, by omega, by omega, by go_num, by first | rfl | (congr 1; omega), ST4.out⟩
            case measure => simp [intOf]; omega
        · rw [decide_eq_true hpo] at HPD
          obtain ⟨dd, ee, nn, hC⟩ := ST.out.stepC hqW (by omega) hpo hkk (by omega)
          have HC := Lib.hid hC
          clear hC
          go_wp2_with fail
          with_reducible refine HPD.out.mono ?_
          rintro e w3 ⟨rfl, hw⟩
          subst hw
          go_wp2_with fail
          with_reducible refine HC.out.mono ?_
          rintro e w4 ⟨rfl, v2, calls2, st4⟩
          rcases dd with _ | _
          · have st4 : CfS w top c b bw W w4 (i + 1) v2 (k + 1) calls2 (qn + 1) := st4
            have ST4 := Lib.hid (st4.alloc (.cells #[.bool false, .int .i64 ee, .int .i64 nn] 71))
            have hql2 : ¬ 2 * (W : Int) < (qn : Int) + 1 := by have := st4.pot; omega
            clear st4
            go_wp2
            go_roundw
            case rel => exact ⟨i + 1, v2, k + 1, calls2, qn + 1, by omega, by omega, by go_num, by first | rfl | (congr 1; omega), ST4.out⟩
            case measure => simp [intOf]; omega
          · have st4 : CfS w top c b bw W w4 (i + 1) v2 (k + 1) calls2 0 := st4
            have ST4 := Lib.hid (st4.alloc (.cells #[.bool true, .int .i64 ee, .int .i64 nn] 71))
            have hql2 : ¬ 2 * (W : Int) < 0 := by omega
            clear st4
            go_wp2
            go_roundw
            case rel => exact ⟨i + 1, v2, k + 1, calls2, 0, by omega, by omega, by go_num, by first | rfl | (congr 1; omega), ST4.out⟩
            case measure => simp [intOf]; omega
      · have h3' : (400 : Int) ≤ (i : Int) := by omega
        have HV := Lib.hid (value_any wr c b bw top v k calls st.cnt (by have := st.vt; omega))
        have HF := Lib.hid (rform_any wr (v : Int))
        have hvt := st.vt
        rw [isTick_iff.mpr (by omega)] at HF
        have ST1 := Lib.hid st.bel
        clear st
        go_wp2_with fail
        with_reducible refine HV.out.mono ?_
        rintro e w3 ⟨rfl, hw⟩
        subst hw
        go_wp2_with fail
        with_reducible refine HV.out.mono ?_
        rintro e w3 ⟨rfl, hw⟩
        subst hw
        go_wp2_with fail
        with_reducible refine HF.out.mono ?_
        rintro e w3 ⟨rfl, hw⟩
        subst hw
        go_wp2
        go_ret
        exact ⟨rfl, ST1.out⟩
    · obtain rfl : i = n := by omega
      have j1 : ¬ (i : Int) < (i : Int) := by omega
      have HV := Lib.hid (value_any wr c b bw top v k calls st.cnt (by have := st.vt; omega))
      have HF := Lib.hid (rform_any wr (v : Int))
      have hvt := st.vt
      rw [isTick_iff.mpr (by omega)] at HF
      have ST1 := Lib.hid st.bel
      clear st
      go_wp2_with fail
      with_reducible refine HV.out.mono ?_
      rintro e w3 ⟨rfl, hw⟩
      subst hw
      go_wp2_with fail
      with_reducible refine HV.out.mono ?_
      rintro e w3 ⟨rfl, hw⟩
      subst hw
      go_wp2_with fail
      with_reducible refine HF.out.mono ?_
      rintro e w3 ⟨rfl, hw⟩
      subst hw
      go_wp2
      go_ret
      exact ⟨rfl, ST1.out⟩
end Go.Proofs.Ytddadlomkodgcaa
