/- The law CountAtOnce: its walk. -/
import Derived.Test.YtddadlomkodgcaaCatM
import Derived.Outline
namespace Go.Proofs.Ytddadlomkodgcaa
open Go.RowKit
set_option maxRecDepth 100000
set_option linter.unusedVariables false

def AoInv (w : World) (top c b bw bo n : Nat) (nv iv : Value) (wr : World) : Prop :=
  ∃ i v k calls ops, i ≤ n ∧ i ≤ 300 ∧ iv = .int .i64 ((i : Nat) : Int) ∧ nv = .int .i64 ((v : Nat) : Int) ∧ AoS w top c b bw bo wr i v k calls ops
set_option maxHeartbeats 6400000 in
theorem countAtOnce_walk (lim : Int) (A : Option Addr) (n d : Nat) (l : List (Int × Int)) (w : World) (hl0 : 0 ≤ lim) (hl1 : lim ≤ 255) (h : ArgC w w.heap.size 2 A n d (FP l)) (hd : d ≤ 8796093021952) (hpk : okPick l) :
    Calls Try.prog 9 #[.int .u8 lim, .slice A n d] w (ValEnd w (.bool true)) := by
  have hle := h.le
  have HAG := Lib.hid h
  have HPK := Lib.hid hpk
  obtain ⟨top, htop⟩ : ∃ top : Nat, (top : Int) = lim % 5 := ⟨(lim % 5).toNat, by omega⟩
  have htop4 : top ≤ 4 := by omega
  clear h hpk
  go_enter Try.func9, Try.ntmps9
  go_wp2_with fail
  with_reducible refine (awake12_any _).mono ?_
  rintro e w1 ⟨rfl, hB⟩
  have HB1 := Lib.hid hB
  have hs1 := hB.size
  clear hB
  have hn := cnew_ok w1 top (by omega)
  have HN := Lib.hid hn
  clear hn
  go_wp2_with fail
  rw [← htop]
  with_reducible refine HN.out.mono ?_
  rintro e w2 ⟨c, b, bw, rfl, hc, hb, hbw, h1, hB⟩
  have hs2 := hB.size
  have B2 := HB1.out.trans (hB.mono hs1)
  have s0 : AoS w top c b bw w2.heap.size (w2.alloc (.cells #[.int .u8 0, .int .u8 0, .int .u8 0, .int .u8 0, .int .u8 0] 97)) 0 0 0 (List.replicate 64 noCall) [0, 0, 0, 0, 0] := by
    have hcl := h1.blk.lt
    obtain ⟨rg, hm⟩ := h1.m
    have hbl := hm.blk.lt
    have hbwl := hm.wd.lt
    exact ⟨h1.alloc _, Nat.le_refl _, Nat.zero_le _, (fun j hj => by rw [List.getD_eq_getElem?_getD, List.getElem?_replicate, if_pos hj]; exact OkCall.none_ _), BlkL.new w2 _ _, rfl,
      (fun j hj hne => by rw [List.getD_eq_getElem?_getD, List.getElem?_replicate, if_pos (by omega)] at hne; exact absurd rfl hne), B2.alloc (by omega) _, by omega, by omega, by omega, by omega, by simp; omega⟩
  have S0 := Lib.hid s0
  clear s0 B2 hB h1
  go_wp2
  go_loopw [9, 35] (fun nv iv wr => AoInv w top c b bw w2.heap.size n nv iv wr) (fun _ iv _ => n - (intOf iv).toNat)
  case atStart => exact ⟨0, 0, 0, _, _, Nat.zero_le _, by omega, rfl, rfl, S0.out⟩
  case round =>
    obtain ⟨i, v, k, calls, ops, hi, hi3, rfl, rfl, st⟩ := hrel
    clear S0
    rcases Nat.lt_or_ge i n with hin | hin
    · obtain ⟨bb, off, eA, hbb, q0, q1⟩ := pick_at (HAG.out.below st.bel) hin
      have hx := okPick_at HPK.out i
      subst eA
      have hbs := st.bel.size
      generalize l.getD i (0, 0) = xy at q0 q1 hx
      obtain ⟨x, y⟩ := xy
      simp only at q0 q1 hx
      have j0 : (0 : Int) ≤ (i : Int) := by omega
      have j1 : (i : Int) < (n : Int) := by omega
      have hbb2 : bb < wr.heap.size := by omega
      rcases Nat.lt_or_ge i 300 with h3 | h3
      · have h3' : ¬ (300 : Int) ≤ (i : Int) := by omega
        have hwe := who5_eq x
        have hq5 := who5_lt x
        generalize who5 x = q at hwe hq5
        obtain ⟨p, hp⟩ : ∃ p, p = calls.getD q noCall := ⟨_, rfl⟩
        have hokq := st.okc q (by omega)
        rw [← hp] at hokq
        by_cases hy : y = 0
        · subst hy
          have st1 := st.alloc (.cells #[.int .i64 x, .int .u8 0] 67)
          have HPD := Lib.hid (pend_at _ c b bw top v k calls st1.cnt q (by omega) p hp.symm)
          have ST1 := Lib.hid st1
          clear st1
          by_cases hpo : p.op = 0
          · rw [decide_eq_false (fun hn => hn hpo)] at HPD
            go_wp2_with fail
            with_reducible refine HPD.out.mono ?_
            rintro e w3 ⟨rfl, hw⟩
            subst hw
            go_wp2
            go_roundw
            case rel => exact ⟨i + 1, v, k, calls, ops, by omega, by omega, by go_num, rfl, ST1.out.next⟩
            case measure => simp [intOf]; omega
          · rw [decide_eq_true hpo] at HPD
            have HST := Lib.hid (step_any _ c b bw top v k calls ST1.out.cnt (by have := st.ki; omega) st.vt (by omega) q (by omega) p hp.symm hpo hokq)
            have hoks := hokq.step hpo st.vt
            have hopq := st.opc q hq5 (by rw [← hp]; exact hpo)
            rw [← hp] at hopq
            have hcs := stepO_cases hokq hpo st.vt
            go_wp2_with fail
            with_reducible refine HPD.out.mono ?_
            rintro e w3 ⟨rfl, hw⟩
            subst hw
            rcases hcs with ⟨hop, hvt, he⟩ | ⟨hop, hvt, he⟩ | ⟨hop, hvt, he⟩ | ⟨hop, hvt, he⟩ | ⟨hop, he⟩ | ⟨x', he, hop⟩
            · rw [he] at HST hoks
              dsimp only at HST hoks
              go_wp2_with fail
              with_reducible refine HST.out.mono ?_
              rintro e w3 ⟨rfl, hc3, hf3⟩
              have st3 := ST1.out.step hq5 hoks.1 hoks.2 hc3 hf3 (fun hn => absurd rfl hn)
              have o0 := st3.op5 hq5
              rw [hopq, hop] at o0
              have ol := st3.opb.lt
              have hz := st3.bel.size
              have st5 := (st3.alloc (.cells #[.bool true, .int .i64 10, .int .i64 0] 71)).alloc (.cells #[.bool true, .int .i64 10, .int .i64 0] 71)
              have hvb := hoks.2
              have HV := Lib.hid (value_eq _ c b bw top (v) (k + 1) _ st5.cnt (by omega) (v : Int) (by omega))
              have HO := Lib.hid st5
              have hvv : (v : Int) ≠ (v : Int) ↔ False := by simp
              have f1 : (v : Int) = (top : Int) := by omega
              clear st3 st5 hc3 hf3 hoks
              go_wp2_with fail
              with_reducible refine HV.out.mono ?_
              rintro e w6 ⟨rfl, hw⟩
              subst hw
              go_wp2
              go_roundw
              case rel => exact ⟨i + 1, v, k + 1, _, ops, by omega, by omega, by go_num, by first | rfl | (congr 1; omega), HO.out⟩
              case measure => simp [intOf]; omega
            · rw [he] at HST hoks
              dsimp only at HST hoks
              go_wp2_with fail
              with_reducible refine HST.out.mono ?_
              rintro e w3 ⟨rfl, hc3, hf3⟩
              have st3 := ST1.out.step hq5 hoks.1 hoks.2 hc3 hf3 (fun hn => absurd rfl hn)
              have o0 := st3.op5 hq5
              rw [hopq, hop] at o0
              have ol := st3.opb.lt
              have hz := st3.bel.size
              have st5 := (st3.alloc (.cells #[.bool true, .int .i64 5, .int .i64 0] 71)).alloc (.cells #[.bool true, .int .i64 5, .int .i64 0] 71)
              have hvb := hoks.2
              have HV := Lib.hid (value_eq _ c b bw top (v) (k + 1) _ st5.cnt (by omega) (v : Int) (by omega))
              have HO := Lib.hid st5
              have hvv : (v : Int) ≠ (v : Int) ↔ False := by simp
              have f1 : (v : Int) = 0 := by omega
              clear st3 st5 hc3 hf3 hoks
              go_wp2_with fail
              with_reducible refine HV.out.mono ?_
              rintro e w6 ⟨rfl, hw⟩
              subst hw
              go_wp2
              go_roundw
              case rel => exact ⟨i + 1, v, k + 1, _, ops, by omega, by omega, by go_num, by first | rfl | (congr 1; omega), HO.out⟩
              case measure => simp [intOf]; omega
            · rw [he] at HST hoks
              dsimp only at HST hoks
              go_wp2_with fail
              with_reducible refine HST.out.mono ?_
              rintro e w3 ⟨rfl, hc3, hf3⟩
              have st3 := ST1.out.step hq5 hoks.1 hoks.2 hc3 hf3 (fun hn => absurd rfl hn)
              have o0 := st3.op5 hq5
              rw [hopq, hop] at o0
              have ol := st3.opb.lt
              have hz := st3.bel.size
              have st5 := (st3.alloc (.cells #[.bool true, .int .i64 0, .int .i64 ((v : Int) + 1)] 71)).alloc (.cells #[.bool true, .int .i64 0, .int .i64 ((v : Int) + 1)] 71)
              have hvb := hoks.2
              have HV := Lib.hid (value_eq _ c b bw top (v + 1) (k + 1) _ st5.cnt (by omega) ((v : Int) + 1) (by omega))
              have HO := Lib.hid st5
              have hvv : ((v : Int) + 1) ≠ ((v : Int) + 1) ↔ False := by simp
              have f1 : ¬ (v : Int) = (top : Int) := by omega
              clear st3 st5 hc3 hf3 hoks
              go_wp2_with fail
              with_reducible refine HV.out.mono ?_
              rintro e w6 ⟨rfl, hw⟩
              subst hw
              go_wp2
              go_roundw
              case rel => exact ⟨i + 1, v + 1, k + 1, _, ops, by omega, by omega, by go_num, by first | rfl | (congr 1; omega), HO.out⟩
              case measure => simp [intOf]; omega
            · rw [he] at HST hoks
              dsimp only at HST hoks
              go_wp2_with fail
              with_reducible refine HST.out.mono ?_
              rintro e w3 ⟨rfl, hc3, hf3⟩
              have st3 := ST1.out.step hq5 hoks.1 hoks.2 hc3 hf3 (fun hn => absurd rfl hn)
              have o0 := st3.op5 hq5
              rw [hopq, hop] at o0
              have ol := st3.opb.lt
              have hz := st3.bel.size
              have st5 := (st3.alloc (.cells #[.bool true, .int .i64 0, .int .i64 ((v : Int) - 1)] 71)).alloc (.cells #[.bool true, .int .i64 0, .int .i64 ((v : Int) - 1)] 71)
              have hvb := hoks.2
              have HV := Lib.hid (value_eq _ c b bw top (v - 1) (k + 1) _ st5.cnt (by omega) ((v : Int) - 1) (by omega))
              have HO := Lib.hid st5
              have hvv : ((v : Int) - 1) ≠ ((v : Int) - 1) ↔ False := by simp
              have f1 : ¬ (v : Int) = 0 := by omega
              clear st3 st5 hc3 hf3 hoks
              go_wp2_with fail
              with_reducible refine HV.out.mono ?_
              rintro e w6 ⟨rfl, hw⟩
              subst hw
              go_wp2
              go_roundw
              case rel => exact ⟨i + 1, v - 1, k + 1, _, ops, by omega, by omega, by go_num, by first | rfl | (congr 1; omega), HO.out⟩
              case measure => simp [intOf]; omega
            · rw [he] at HST hoks
              dsimp only at HST hoks
              go_wp2_with fail
              with_reducible refine HST.out.mono ?_
              rintro e w3 ⟨rfl, hc3, hf3⟩
              have st3 := ST1.out.step hq5 hoks.1 hoks.2 hc3 hf3 (fun hn => absurd rfl hn)
              have o0 := st3.op5 hq5
              rw [hopq, hop] at o0
              have ol := st3.opb.lt
              have hz := st3.bel.size
              have st5 := (st3.alloc (.cells #[.bool true, .int .i64 0, .int .i64 (v : Int)] 71)).alloc (.cells #[.bool true, .int .i64 0, .int .i64 (v : Int)] 71)
              have hvb := hoks.2
              have HV := Lib.hid (value_eq _ c b bw top (v) (k + 1) _ st5.cnt (by omega) (v : Int) (by omega))
              have HO := Lib.hid st5
              have hvv : (v : Int) ≠ (v : Int) ↔ False := by simp
              clear st3 st5 hc3 hf3 hoks
              go_wp2_with fail
              with_reducible refine HV.out.mono ?_
              rintro e w6 ⟨rfl, hw⟩
              subst hw
              go_wp2
              go_roundw
              case rel => exact ⟨i + 1, v, k + 1, _, ops, by omega, by omega, by go_num, by first | rfl | (congr 1; omega), HO.out⟩
              case measure => simp [intOf]; omega
            · rw [he] at HST hoks
              dsimp only at HST hoks
              go_wp2_with fail
              with_reducible refine HST.out.mono ?_
              rintro e w3 ⟨rfl, hc3, hf3⟩
              have st3 := ST1.out.step hq5 hoks.1 hoks.2 hc3 hf3 (fun hn => by rw [hop]; exact hopq)
              have st5 := st3.alloc (.cells #[.bool false, .int .i64 0, .int .i64 0] 71)
              have HV := Lib.hid (value_eq _ c b bw top v (k + 1) _ st5.cnt (by omega) (v : Int) rfl)
              have HO := Lib.hid st5
              clear st3 st5 hc3 hf3 hoks
              go_wp2_with fail
              with_reducible refine HV.out.mono ?_
              rintro e w6 ⟨rfl, hw⟩
              subst hw
              go_wp2
              go_roundw
              case rel => exact ⟨i + 1, v, k + 1, _, ops, by omega, by omega, by go_num, rfl, HO.out⟩
              case measure => simp [intOf]; omega
        · have hy' : ¬ y = 0 := hy
          obtain ⟨op, hop⟩ : ∃ op : Nat, (op : Int) = 1 + y % 3 := ⟨(1 + y % 3).toNat, by omega⟩
          have ho1 : 1 ≤ op := by omega
          have ho3 : op ≤ 3 := by omega
          have st1 := st.alloc (.cells #[.int .i64 x, .int .u8 y] 67)
          have ST1 := Lib.hid st1
          by_cases hpo : p.op = 0
          · have HSS := Lib.hid (start_ok _ c b bw top v k calls st1.cnt q (by omega) op ho1 ho3 (by rw [← hp]; exact hpo))
            clear st1
            go_wp2_with fail
            rw [← hop]
            with_reducible refine HSS.out.mono ?_
            rintro e w3 ⟨rfl, h3, hf3⟩
            have st3 := (ST1.out.start hq5 ho1 ho3 h3 hf3).next
            have HO := Lib.hid st3
            have K3 := ST1.out.opb.off hf3 ST1.out.nc
            have o0 := K3.cell q (.int .u8 (ops.getD q 0)) (by rw [List.getElem?_map, List.getElem?_eq_getElem (by rw [st.opl]; exact hq5)]; simp [List.getD_eq_getElem?_getD, st.opl, hq5])
            have o1 := K3.froz q (by simp [st.opl]; exact hq5)
            have ol := K3.lt
            clear st3 K3 h3 hf3
            go_wp2
            go_roundw
            case rel => exact ⟨i + 1, v, k, _, _, by omega, by omega, by go_num, rfl, by rw [← hop]; exact HO.out⟩
            case measure => simp [intOf]; omega
          · have HSS := Lib.hid (start_busy _ c b bw top v k calls st1.cnt q (by omega) op ho1 ho3 (by rw [← hp]; exact hpo))
            clear st1
            go_wp2_with fail
            rw [← hop]
            with_reducible refine HSS.out.mono ?_
            rintro e w3 ⟨rfl, hw⟩
            subst hw
            go_wp2
            go_roundw
            case rel => exact ⟨i + 1, v, k, _, _, by omega, by omega, by go_num, rfl, ST1.out.next⟩
            case measure => simp [intOf]; omega
      · have h3' : (300 : Int) ≤ (i : Int) := by omega
        have ST1 := Lib.hid (st.bel.alloc hbs (.cells #[.int .i64 x, .int .u8 y] 67))
        go_wp2
        go_ret
        exact ⟨rfl, ST1.out⟩
    · obtain rfl : i = n := by omega
      have j1 : ¬ (i : Int) < (i : Int) := by omega
      have ST1 := Lib.hid st.bel
      clear st
      go_wp2
      go_ret
      exact ⟨rfl, ST1.out⟩
end Go.Proofs.Ytddadlomkodgcaa
