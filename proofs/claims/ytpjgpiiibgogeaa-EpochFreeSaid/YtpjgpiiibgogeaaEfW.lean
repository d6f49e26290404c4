/- The law EpochFree: its walk. -/
import Derived.Test.YtpjgpiiibgogeaaEpY
import Derived.Test.YtpjgpiiibgogeaaPkEArg
import Derived.BigQuiet
namespace Go.Proofs.Ytpjgpiiibgogeaa
open Go.RowKit
set_option maxRecDepth 100000
set_option linter.unusedVariables false

theorem u64w' (x : Int) : IntKind.u64.wrap x = x % 18446744073709551616 := by simp [IntKind.wrap, IntKind.bits, IntKind.signed]
def who3 (x : Int) : Nat := (x % 18446744073709551616 % 3).toNat
theorem who3_lt (x : Int) : who3 x < 3 := by unfold who3; omega
theorem who3_eq (x : Int) : (IntKind.u64.wrap x).tmod 3 = (who3 x : Int) := by
  rw [u64w', Int.tmod_eq_emod_of_nonneg (by omega)]
  unfold who3; omega
theorem eop_eq (op : Nat) : ∃ o : Nat, 1 ≤ o ∧ o ≤ 5 ∧ 1 + (op : Int) % 5 = (o : Int) := ⟨1 + op % 5, by omega, by omega, by omega⟩
theorem eepochQ {w0 w : World} {x W k : Nat} {X : List Nat} {s : EpV} (h : EpC w0 w x W X k s) (hk : k < 2305843009213693952) (t : Nat) : Calls Try.prog 26 #[PV x] (w.drewN t) fun e w' => e = .returned (.int .i64 (s.E : Int)) ∧ w' = w.drewN t :=
  (eepochC (h.below (below_drewN (Below.refl _ _) t)) hk).mono fun e w' ⟨a, b⟩ => ⟨a, b.symm⟩
def EfI (w : World) (x n : Nat) (iv : Value) (wr : World) : Prop :=
  ∃ i k s, i ≤ n ∧ i ≤ 200 ∧ iv = .int .i64 ((i : Nat) : Int) ∧ k ≤ 10 * i ∧ EpC w wr x 3 [] k s ∧ (∀ j, j < 3 → (s.wk j).nx = .none) ∧ ∀ j, j < 3 → (s.wk j).gs.length ≤ i
theorem efi_end {w wl : World} {x n i k nn q o : Nat} {s sj : EpV} {q' : EqV} {X : List Nat} {t : Int} (hi : i < n) (h3 : i < 200) (hk : k ≤ 10 * i) (hnn : nn ≤ 5) (hc : EpC w wl x 3 X (k + nn) sj) (hf : FinP 3 q o t s q' sj) (hst : (∀ j, j < 3 → (s.wk j).nx = .none) ∧ ∀ j, j < 3 → (s.wk j).gs.length ≤ i) (m : Nat) :
    EfI w x n (.int .i64 ((i + 1 : Nat) : Int)) (wl.drewN m) := by
  refine ⟨i + 1, k + nn, sj, by omega, by omega, rfl, by omega, (hc.weak (by simp)).below (below_drewN (Below.refl _ _) m), fun j hj => ?_, fun j hj => ?_⟩
  · by_cases e : j = q
    · subst e; exact hf.nx
    · rw [hf.wk j e]; exact hst.1 j hj
  · by_cases e : j = q
    · subst e
      have := hst.2 j hj
      by_cases h3 : o = 3
      · rw [(hf.o3 h3).2]; simp; omega
      · by_cases h5 : o = 5
        · rw [(hf.o5 h5).2]; simp; omega
        · rw [hf.gs h3 h5]; omega
    · rw [hf.wk j e]; have := hst.2 j hj; omega
set_option maxHeartbeats 12800000 in
theorem epochFree_walk (A : Option Addr) (n d : Nat) (l0 : List EpkV) (w : World) (h : ArgC w w.heap.size 3 A n d (FE l0)) (hd : d ≤ 5864062014805) (hok : okEpks l0) :
    Calls Try.prog 5 #[.slice A n d] w (ValEnd w (.bool true)) := by
  have hle := h.le
  have HAG := Lib.hid h
  have HOK := Lib.hid hok
  clear h hok
  go_enter Try.func5, Try.ntmps5
  go_wp2_with fail
  with_reducible refine (awake13_any _).mono ?_
  rintro e w1 ⟨rfl, hB⟩
  have HN : Hid (Calls Try.prog 14 #[.int .i64 3] w1 _) := Lib.hid (enewC w w1 hB 3 (by omega) (by omega))
  clear hB
  go_wp2_with fail
  with_reducible refine HN.out.mono ?_
  rintro e w2 ⟨x, rfl, c2, _⟩
  have C2 := Lib.hid c2
  clear c2 HN
  go_wp2
  go_loopw [28] (fun iv wr => EfI w x n iv wr) (fun iv _ => n - (intOf iv).toNat)
  case atStart => exact ⟨0, 0, _, Nat.zero_le _, by omega, rfl, by omega, C2.out, fun _ _ => rfl, fun _ _ => Nat.le_refl _⟩
  case round =>
    obtain ⟨i, k, s, hi, hi2, rfl, hk, hc, hnx, hgs⟩ := hrel
    clear C2
    have hbs := hc.bel.size
    rcases Nat.lt_or_ge i n with hin | hin
    · obtain ⟨bb, off, rfl, hbb, hcell⟩ := epk_at (HAG.out.below hc.bel) hin
      have q0 := hcell 0 (by omega)
      have q1 := hcell 1 (by omega)
      have q2 := hcell 2 (by omega)
      have hpok := okEpks_at HOK.out i
      generalize l0.getD i noEpk = p at q0 q1 q2 hpok
      obtain ⟨who, op, thing⟩ := p
      replace q0 : wr.cell? ⟨bb, off + i * 3, none⟩ = some (.int .i64 who) := q0
      replace q1 : wr.cell? ⟨bb, off + i * 3 + 1, none⟩ = some (.int .u8 (op : Int)) := q1
      replace q2 : wr.cell? ⟨bb, off + i * 3 + 2, none⟩ = some (.int .i64 thing) := q2
      have j0 : (0 : Int) ≤ (i : Int) := by omega
      have j1 : (i : Int) < (n : Int) := by omega
      have hbb2 : bb < wr.heap.size := by omega
      have hop1 : op ≤ 255 := hpok.op1
      clear hcell hpok
      rcases Nat.lt_or_ge i 200 with h3 | h3
      · have h3' : ¬ (200 : Int) ≤ (i : Int) := by omega
        have hwe := who3_eq who
        have hql := who3_lt who
        generalize who3 who = q at hwe hql
        have hqw : IntKind.i64.wrap (q : Int) = (q : Int) := IntWalk.i64_in _ (by omega)
        obtain ⟨o, ho1, ho5, hoe⟩ := eop_eq op
        have cP := hc.alloc (.cells #[.int .i64 who, .int .u8 (op : Int), .int .i64 thing] 32)
        obtain ⟨pv, hpv⟩ : ∃ pv, ((s.wk q).pin != 0) = pv := ⟨_, rfl⟩
        have HPN := Lib.hid (epinC cP q hql pv hpv)
        have CP := Lib.hid cP
        have HPV := Lib.hid hpv
        have HST := Lib.hid (And.intro hnx hgs)
        clear hc cP hpv hnx hgs
        go_wp2_with fail
        with_reducible refine HPN.out.mono ?_
        rintro e w3 ⟨rfl, hw⟩
        subst hw
        clear HPN
        clear hoe hop1 q1
        rcases (by omega : o = 1 ∨ o = 2 ∨ o = 3 ∨ o = 4 ∨ o = 5) with rfl | rfl | rfl | rfl | rfl <;> rcases pv with _ | _
        all_goals try rw [show ((1 : Nat) : Int) = 1 from rfl]
        all_goals try rw [show ((2 : Nat) : Int) = 2 from rfl]
        all_goals try rw [show ((3 : Nat) : Int) = 3 from rfl]
        all_goals try rw [show ((4 : Nat) : Int) = 4 from rfl]
        all_goals try rw [show ((5 : Nat) : Int) = 5 from rfl]
        · skip
          have hck : checkE (s.wk q) 1 = 0 := by
            have := HST.out.2 q hql
            have h9 := HPV.out
            simp [checkE, HST.out.1 q hql, isEN] at h9 ⊢ <;> omega
          have HS : Hid (Calls Try.prog 16 #[PV x, IV q, .int .u8 1, .int .i64 (i : Int)] _ _) := Lib.hid (estartC CP.out q hql 1 (i : Int) (by omega) (by omega) hck)
          have HAL := Lib.hid (AlP.start CP.out.inv hql (by omega) (by omega) hck (i : Int))
          go_wp2_with fail
          with_reducible refine HS.out.mono ?_
          rintro e w4 ⟨rfl, c4, _⟩
          have HE := Lib.hid (eepochC c4 (by omega))
          rw [EpV.E_nx] at HE
          have C4 := Lib.hid c4
          clear c4 HS
          go_wp2_with fail
          with_reducible refine HE.out.mono ?_
          rintro e w5 ⟨rfl, hw⟩
          subst hw
          have c5 := C4.out.newX RB
          have K5 := Lib.hid (BlkL.new w4 [.bool false, .int .i64 0, .int .i64 0, .slice none 0 0] 37)
          have C5 := Lib.hid c5
          have hw4 : w.heap.size ≤ w4.heap.size := C4.out.bel.size
          clear c5 C4 HE CP
          go_wp2
          go_loopw [13] (fun nv wl => ∃ (nn : Nat) (sj : EpV) (q' : EqV) (A' : Option Addr) (c' : Nat), nv = .int .i64 ((nn : Nat) : Int) ∧ nn ≤ 5 ∧ EpC w wl x 3 [w4.heap.size] (k + nn) sj ∧ BlkL wl w4.heap.size [.bool q'.d, .int .i64 (q'.e : Int), .int .i64 q'.n, .slice A' q'.th.length c'] ∧ ((q'.d = true ∧ FinP 3 q 1 (i : Int) s q' sj) ∨ (q'.d = false ∧ ∃ rem, nn + rem ≤ 5 ∧ AlP 3 q 1 (i : Int) s sj rem))) (fun nv _ => 6 - (intOf nv).toNat)
          case atStart => exact ⟨0, _, noEq, none, 0, rfl, by omega, C5.out, K5.out, .inr ⟨rfl, 5, by omega, HAL.out⟩⟩
          case round =>
            clear C5 K5 HAL
            obtain ⟨nn, sj, ⟨qd, qe, qn, qth⟩, A', c', rfl, hnn, hcj, hkr, hor⟩ := hrel
            have r0 := hkr.cell 0 _ rfl
            have r1 := hkr.cell 1 _ rfl
            have rl := hkr.lt
            rcases hor with ⟨hd, hfin⟩ | ⟨hd, rem, hrem, hal⟩
            · obtain rfl : qd = true := hd
              have hpv2 : ((sj.wk q).pin != 0) = true := by
                rw [(hfin.o1 rfl).2]; simp
              have HP2 := Lib.hid (epinC hcj q hql _ hpv2)
              have hsE : s.E ≤ k + nn := by
                have := hcj.ek
                rw [hfin.E (by omega)] at this; exact this
              have CJ := Lib.hid hcj
              have HFIN := Lib.hid hfin
              have HE2 := Lib.hid (fun t => eepochQ hcj (by omega) t)
              have hw1 : IntKind.i64.wrap ((s.E : Int) + 1) = (s.E : Int) + 1 := IntWalk.i64_in _ (by omega)
              have hEe : (sj.E : Int) = (s.E : Int) := by rw [hfin.E (by omega)]
              clear hcj hfin hkr hpv2
              go_wp2_with fail
              with_reducible refine HP2.out.mono ?_
              rintro e w6 ⟨rfl, hw⟩
              subst hw
              clear HP2
              go_wp2_with fail
              go_quiet (first | (go_at_call 26; with_reducible exact Calls.quiet_of_same (HE2.out _)))
              rename_i nq
              go_wp2
              go_roundw
              case rel => exact efi_end hin h3 hk hnn CJ.out HFIN.out HST.out _
              case measure => simp [intOf]; omega
            · obtain rfl : qd = false := hd
              have hpos := hal.pos
              have hp := hal.isEN
              have hnx := hal.next hql
              generalize htt : stepE 3 sj q = tt at hnx
              obtain ⟨⟨td, te, tn, tth⟩, ts, ty⟩ := tt
              have HSP := Lib.hid (estepC hcj (by omega) q hql hp _ htt)
              have HKR := Lib.hid hkr
              have HNX := Lib.hid hnx
              have j7 : ¬ (7 : Int) < (nn : Int) := by omega
              clear hcj hkr hal hp htt hnx
              go_wp2_with fail
              with_reducible refine HSP.out.mono ?_
              rintro e w6 ⟨A2, c2, rfl, c6, o6, f6⟩
              have c6 : EpC w w6 x 3 (thX A2 ++ [w4.heap.size]) (k + nn + 1) (ts.nx q ty) := c6
              have kr6 := f6.blk HKR.out (.inr (by simp))
              have z0 := kr6.cell 0 _ rfl
              have z1 := kr6.cell 1 _ rfl
              have z2 := kr6.cell 2 _ rfl
              have z3 := kr6.cell 3 _ rfl
              have y0 := kr6.froz 0 (by simp)
              have y1 := kr6.froz 1 (by simp)
              have y2 := kr6.froz 2 (by simp)
              have y3 := kr6.froz 3 (by simp)
              have zl := kr6.lt
              have hp := off_put4 (Off.refl [w4.heap.size] w6) (r := w4.heap.size) (by simp) (.bool td) (.int .i64 (te : Int)) (.int .i64 tn) (.slice A2 tth.length c2)
              have kf := kr6.put4 (.bool td) (.int .i64 (te : Int)) (.int .i64 tn) (.slice A2 tth.length c2)
              have HALL := Lib.hid (And.intro ((c6.putX hp (fun y hy => by simp only [List.mem_cons, List.not_mem_nil, or_false] at hy; subst hy; exact ⟨by simp, hw4⟩)).weak (X' := [w4.heap.size]) (fun y hy => List.mem_append_right _ hy)) kf)
              clear c6 kr6 o6 f6 hp kf HSP
              go_wp2
              go_roundw
              case rel =>
                refine ⟨nn + 1, ts.nx q ty, ⟨td, te, tn, tth⟩, A2, c2, by go_num, by omega, HALL.out.1, HALL.out.2, ?_⟩
                rcases HNX.out with ⟨h1, h2⟩ | ⟨h1, rem', h2, h3⟩
                · exact .inl ⟨h1, h2⟩
                · exact .inr ⟨by have := congrArg EqV.d h1; exact this, rem', by omega, h3⟩
              case measure => simp [intOf]; omega
        · skip
          have hck : checkE (s.wk q) 1 = 8 := by
            have h9 := HPV.out
            simp [checkE, HST.out.1 q hql, isEN] at h9 ⊢ <;> omega
          have hs := estartN CP.out q hql 1 (i : Int) (by omega) (by omega) (by rw [hck]; omega)
          rw [hck] at hs
          have HS : Hid (Calls Try.prog 16 #[PV x, IV q, .int .u8 1, .int .i64 (i : Int)] _ fun e w' => e = .returned (.int .i64 8) ∧ _) := Lib.hid hs
          clear hs
          go_wp2_with fail
          with_reducible refine HS.out.mono ?_
          rintro e w4 ⟨rfl, c4, _⟩
          have C4 := Lib.hid c4
          clear c4 HS CP
          go_wp2
          go_roundw
          case rel => exact ⟨i + 1, k, s, by omega, by omega, by go_num, by omega, C4.out, HST.out.1, fun j hj => by have := HST.out.2 j hj; omega⟩
          case measure => simp [intOf]; omega
        · skip
          have hck : checkE (s.wk q) 2 = 7 := by
            have h9 := HPV.out
            simp [checkE, HST.out.1 q hql, isEN] at h9 ⊢ <;> omega
          have hs := estartN CP.out q hql 2 (i : Int) (by omega) (by omega) (by rw [hck]; omega)
          rw [hck] at hs
          have HS : Hid (Calls Try.prog 16 #[PV x, IV q, .int .u8 2, .int .i64 (i : Int)] _ fun e w' => e = .returned (.int .i64 7) ∧ _) := Lib.hid hs
          clear hs
          go_wp2_with fail
          with_reducible refine HS.out.mono ?_
          rintro e w4 ⟨rfl, c4, _⟩
          have C4 := Lib.hid c4
          clear c4 HS CP
          go_wp2
          go_roundw
          case rel => exact ⟨i + 1, k, s, by omega, by omega, by go_num, by omega, C4.out, HST.out.1, fun j hj => by have := HST.out.2 j hj; omega⟩
          case measure => simp [intOf]; omega
        · skip
          have hck : checkE (s.wk q) 2 = 0 := by
            have := HST.out.2 q hql
            have h9 := HPV.out
            simp [checkE, HST.out.1 q hql, isEN] at h9 ⊢ <;> omega
          have HS : Hid (Calls Try.prog 16 #[PV x, IV q, .int .u8 2, .int .i64 (i : Int)] _ _) := Lib.hid (estartC CP.out q hql 2 (i : Int) (by omega) (by omega) hck)
          have HAL := Lib.hid (AlP.start CP.out.inv hql (by omega) (by omega) hck (i : Int))
          go_wp2_with fail
          with_reducible refine HS.out.mono ?_
          rintro e w4 ⟨rfl, c4, _⟩
          have HE := Lib.hid (eepochC c4 (by omega))
          rw [EpV.E_nx] at HE
          have C4 := Lib.hid c4
          clear c4 HS
          go_wp2_with fail
          with_reducible refine HE.out.mono ?_
          rintro e w5 ⟨rfl, hw⟩
          subst hw
          have c5 := C4.out.newX RB
          have K5 := Lib.hid (BlkL.new w4 [.bool false, .int .i64 0, .int .i64 0, .slice none 0 0] 37)
          have C5 := Lib.hid c5
          have hw4 : w.heap.size ≤ w4.heap.size := C4.out.bel.size
          clear c5 C4 HE CP
          go_wp2
          go_loopw [13] (fun nv wl => ∃ (nn : Nat) (sj : EpV) (q' : EqV) (A' : Option Addr) (c' : Nat), nv = .int .i64 ((nn : Nat) : Int) ∧ nn ≤ 5 ∧ EpC w wl x 3 [w4.heap.size] (k + nn) sj ∧ BlkL wl w4.heap.size [.bool q'.d, .int .i64 (q'.e : Int), .int .i64 q'.n, .slice A' q'.th.length c'] ∧ ((q'.d = true ∧ FinP 3 q 2 (i : Int) s q' sj) ∨ (q'.d = false ∧ ∃ rem, nn + rem ≤ 5 ∧ AlP 3 q 2 (i : Int) s sj rem))) (fun nv _ => 6 - (intOf nv).toNat)
          case atStart => exact ⟨0, _, noEq, none, 0, rfl, by omega, C5.out, K5.out, .inr ⟨rfl, 5, by omega, HAL.out⟩⟩
          case round =>
            clear C5 K5 HAL
            obtain ⟨nn, sj, ⟨qd, qe, qn, qth⟩, A', c', rfl, hnn, hcj, hkr, hor⟩ := hrel
            have r0 := hkr.cell 0 _ rfl
            have r1 := hkr.cell 1 _ rfl
            have rl := hkr.lt
            rcases hor with ⟨hd, hfin⟩ | ⟨hd, rem, hrem, hal⟩
            · obtain rfl : qd = true := hd
              have hpv2 : ((sj.wk q).pin != 0) = false := by
                rw [(hfin.o2 rfl).2]; rfl
              have HP2 := Lib.hid (epinC hcj q hql _ hpv2)
              have hsE : s.E ≤ k + nn := by
                have := hcj.ek
                rw [hfin.E (by omega)] at this; exact this
              have CJ := Lib.hid hcj
              have HFIN := Lib.hid hfin
              have HE2 := Lib.hid (fun t => eepochQ hcj (by omega) t)
              have hw1 : IntKind.i64.wrap ((s.E : Int) + 1) = (s.E : Int) + 1 := IntWalk.i64_in _ (by omega)
              have hEe : (sj.E : Int) = (s.E : Int) := by rw [hfin.E (by omega)]
              clear hcj hfin hkr hpv2
              go_wp2_with fail
              with_reducible refine HP2.out.mono ?_
              rintro e w6 ⟨rfl, hw⟩
              subst hw
              clear HP2
              go_wp2_with fail
              go_quiet (first | (go_at_call 26; with_reducible exact Calls.quiet_of_same (HE2.out _)))
              rename_i nq
              go_wp2
              go_roundw
              case rel => exact efi_end hin h3 hk hnn CJ.out HFIN.out HST.out _
              case measure => simp [intOf]; omega
            · obtain rfl : qd = false := hd
              have hpos := hal.pos
              have hp := hal.isEN
              have hnx := hal.next hql
              generalize htt : stepE 3 sj q = tt at hnx
              obtain ⟨⟨td, te, tn, tth⟩, ts, ty⟩ := tt
              have HSP := Lib.hid (estepC hcj (by omega) q hql hp _ htt)
              have HKR := Lib.hid hkr
              have HNX := Lib.hid hnx
              have j7 : ¬ (7 : Int) < (nn : Int) := by omega
              clear hcj hkr hal hp htt hnx
              go_wp2_with fail
              with_reducible refine HSP.out.mono ?_
              rintro e w6 ⟨A2, c2, rfl, c6, o6, f6⟩
              have c6 : EpC w w6 x 3 (thX A2 ++ [w4.heap.size]) (k + nn + 1) (ts.nx q ty) := c6
              have kr6 := f6.blk HKR.out (.inr (by simp))
              have z0 := kr6.cell 0 _ rfl
              have z1 := kr6.cell 1 _ rfl
              have z2 := kr6.cell 2 _ rfl
              have z3 := kr6.cell 3 _ rfl
              have y0 := kr6.froz 0 (by simp)
              have y1 := kr6.froz 1 (by simp)
              have y2 := kr6.froz 2 (by simp)
              have y3 := kr6.froz 3 (by simp)
              have zl := kr6.lt
              have hp := off_put4 (Off.refl [w4.heap.size] w6) (r := w4.heap.size) (by simp) (.bool td) (.int .i64 (te : Int)) (.int .i64 tn) (.slice A2 tth.length c2)
              have kf := kr6.put4 (.bool td) (.int .i64 (te : Int)) (.int .i64 tn) (.slice A2 tth.length c2)
              have HALL := Lib.hid (And.intro ((c6.putX hp (fun y hy => by simp only [List.mem_cons, List.not_mem_nil, or_false] at hy; subst hy; exact ⟨by simp, hw4⟩)).weak (X' := [w4.heap.size]) (fun y hy => List.mem_append_right _ hy)) kf)
              clear c6 kr6 o6 f6 hp kf HSP
              go_wp2
              go_roundw
              case rel =>
                refine ⟨nn + 1, ts.nx q ty, ⟨td, te, tn, tth⟩, A2, c2, by go_num, by omega, HALL.out.1, HALL.out.2, ?_⟩
                rcases HNX.out with ⟨h1, h2⟩ | ⟨h1, rem', h2, h3⟩
                · exact .inl ⟨h1, h2⟩
                · exact .inr ⟨by have := congrArg EqV.d h1; exact this, rem', by omega, h3⟩
              case measure => simp [intOf]; omega
        · skip
          have hck : checkE (s.wk q) 3 = 0 := by
            have := HST.out.2 q hql
            have h9 := HPV.out
            simp [checkE, HST.out.1 q hql, isEN] at h9 ⊢ <;> omega
          have HS : Hid (Calls Try.prog 16 #[PV x, IV q, .int .u8 3, .int .i64 (i : Int)] _ _) := Lib.hid (estartC CP.out q hql 3 (i : Int) (by omega) (by omega) hck)
          have HAL := Lib.hid (AlP.start CP.out.inv hql (by omega) (by omega) hck (i : Int))
          go_wp2_with fail
          with_reducible refine HS.out.mono ?_
          rintro e w4 ⟨rfl, c4, _⟩
          have HE := Lib.hid (eepochC c4 (by omega))
          rw [EpV.E_nx] at HE
          have C4 := Lib.hid c4
          clear c4 HS
          go_wp2_with fail
          with_reducible refine HE.out.mono ?_
          rintro e w5 ⟨rfl, hw⟩
          subst hw
          have c5 := C4.out.newX RB
          have K5 := Lib.hid (BlkL.new w4 [.bool false, .int .i64 0, .int .i64 0, .slice none 0 0] 37)
          have C5 := Lib.hid c5
          have hw4 : w.heap.size ≤ w4.heap.size := C4.out.bel.size
          clear c5 C4 HE CP
          go_wp2
          go_loopw [13] (fun nv wl => ∃ (nn : Nat) (sj : EpV) (q' : EqV) (A' : Option Addr) (c' : Nat), nv = .int .i64 ((nn : Nat) : Int) ∧ nn ≤ 5 ∧ EpC w wl x 3 [w4.heap.size] (k + nn) sj ∧ BlkL wl w4.heap.size [.bool q'.d, .int .i64 (q'.e : Int), .int .i64 q'.n, .slice A' q'.th.length c'] ∧ ((q'.d = true ∧ FinP 3 q 3 (i : Int) s q' sj) ∨ (q'.d = false ∧ ∃ rem, nn + rem ≤ 5 ∧ AlP 3 q 3 (i : Int) s sj rem))) (fun nv _ => 6 - (intOf nv).toNat)
          case atStart => exact ⟨0, _, noEq, none, 0, rfl, by omega, C5.out, K5.out, .inr ⟨rfl, 5, by omega, HAL.out⟩⟩
          case round =>
            clear C5 K5 HAL
            obtain ⟨nn, sj, ⟨qd, qe, qn, qth⟩, A', c', rfl, hnn, hcj, hkr, hor⟩ := hrel
            have r0 := hkr.cell 0 _ rfl
            have r1 := hkr.cell 1 _ rfl
            have rl := hkr.lt
            rcases hor with ⟨hd, hfin⟩ | ⟨hd, rem, hrem, hal⟩
            · obtain rfl : qd = true := hd
              have hpv2 : ((sj.wk q).pin != 0) = false := by
                rw [hfin.pin (by omega) (by omega)]; exact HPV.out
              have HP2 := Lib.hid (epinC hcj q hql _ hpv2)
              have hsE : s.E ≤ k + nn := by
                have := hcj.ek
                rw [hfin.E (by omega)] at this; exact this
              have CJ := Lib.hid hcj
              have HFIN := Lib.hid hfin
              have HE2 := Lib.hid (fun t => eepochQ hcj (by omega) t)
              have hw1 : IntKind.i64.wrap ((s.E : Int) + 1) = (s.E : Int) + 1 := IntWalk.i64_in _ (by omega)
              have hEe : (sj.E : Int) = (s.E : Int) := by rw [hfin.E (by omega)]
              clear hcj hfin hkr hpv2
              go_wp2_with fail
              with_reducible refine HP2.out.mono ?_
              rintro e w6 ⟨rfl, hw⟩
              subst hw
              clear HP2
              go_wp2_with fail
              go_quiet (first | (go_at_call 26; with_reducible exact Calls.quiet_of_same (HE2.out _)))
              rename_i nq
              go_wp2
              go_roundw
              case rel => exact efi_end hin h3 hk hnn CJ.out HFIN.out HST.out _
              case measure => simp [intOf]; omega
            · obtain rfl : qd = false := hd
              have hpos := hal.pos
              have hp := hal.isEN
              have hnx := hal.next hql
              generalize htt : stepE 3 sj q = tt at hnx
              obtain ⟨⟨td, te, tn, tth⟩, ts, ty⟩ := tt
              have HSP := Lib.hid (estepC hcj (by omega) q hql hp _ htt)
              have HKR := Lib.hid hkr
              have HNX := Lib.hid hnx
              have j7 : ¬ (7 : Int) < (nn : Int) := by omega
              clear hcj hkr hal hp htt hnx
              go_wp2_with fail
              with_reducible refine HSP.out.mono ?_
              rintro e w6 ⟨A2, c2, rfl, c6, o6, f6⟩
              have c6 : EpC w w6 x 3 (thX A2 ++ [w4.heap.size]) (k + nn + 1) (ts.nx q ty) := c6
              have kr6 := f6.blk HKR.out (.inr (by simp))
              have z0 := kr6.cell 0 _ rfl
              have z1 := kr6.cell 1 _ rfl
              have z2 := kr6.cell 2 _ rfl
              have z3 := kr6.cell 3 _ rfl
              have y0 := kr6.froz 0 (by simp)
              have y1 := kr6.froz 1 (by simp)
              have y2 := kr6.froz 2 (by simp)
              have y3 := kr6.froz 3 (by simp)
              have zl := kr6.lt
              have hp := off_put4 (Off.refl [w4.heap.size] w6) (r := w4.heap.size) (by simp) (.bool td) (.int .i64 (te : Int)) (.int .i64 tn) (.slice A2 tth.length c2)
              have kf := kr6.put4 (.bool td) (.int .i64 (te : Int)) (.int .i64 tn) (.slice A2 tth.length c2)
              have HALL := Lib.hid (And.intro ((c6.putX hp (fun y hy => by simp only [List.mem_cons, List.not_mem_nil, or_false] at hy; subst hy; exact ⟨by simp, hw4⟩)).weak (X' := [w4.heap.size]) (fun y hy => List.mem_append_right _ hy)) kf)
              clear c6 kr6 o6 f6 hp kf HSP
              go_wp2
              go_roundw
              case rel =>
                refine ⟨nn + 1, ts.nx q ty, ⟨td, te, tn, tth⟩, A2, c2, by go_num, by omega, HALL.out.1, HALL.out.2, ?_⟩
                rcases HNX.out with ⟨h1, h2⟩ | ⟨h1, rem', h2, h3⟩
                · exact .inl ⟨h1, h2⟩
                · exact .inr ⟨by have := congrArg EqV.d h1; exact this, rem', by omega, h3⟩
              case measure => simp [intOf]; omega
        · skip
          have hck : checkE (s.wk q) 3 = 0 := by
            have := HST.out.2 q hql
            have h9 := HPV.out
            simp [checkE, HST.out.1 q hql, isEN] at h9 ⊢ <;> omega
          have HS : Hid (Calls Try.prog 16 #[PV x, IV q, .int .u8 3, .int .i64 (i : Int)] _ _) := Lib.hid (estartC CP.out q hql 3 (i : Int) (by omega) (by omega) hck)
          have HAL := Lib.hid (AlP.start CP.out.inv hql (by omega) (by omega) hck (i : Int))
          go_wp2_with fail
          with_reducible refine HS.out.mono ?_
          rintro e w4 ⟨rfl, c4, _⟩
          have HE := Lib.hid (eepochC c4 (by omega))
          rw [EpV.E_nx] at HE
          have C4 := Lib.hid c4
          clear c4 HS
          go_wp2_with fail
          with_reducible refine HE.out.mono ?_
          rintro e w5 ⟨rfl, hw⟩
          subst hw
          have c5 := C4.out.newX RB
          have K5 := Lib.hid (BlkL.new w4 [.bool false, .int .i64 0, .int .i64 0, .slice none 0 0] 37)
          have C5 := Lib.hid c5
          have hw4 : w.heap.size ≤ w4.heap.size := C4.out.bel.size
          clear c5 C4 HE CP
          go_wp2
          go_loopw [13] (fun nv wl => ∃ (nn : Nat) (sj : EpV) (q' : EqV) (A' : Option Addr) (c' : Nat), nv = .int .i64 ((nn : Nat) : Int) ∧ nn ≤ 5 ∧ EpC w wl x 3 [w4.heap.size] (k + nn) sj ∧ BlkL wl w4.heap.size [.bool q'.d, .int .i64 (q'.e : Int), .int .i64 q'.n, .slice A' q'.th.length c'] ∧ ((q'.d = true ∧ FinP 3 q 3 (i : Int) s q' sj) ∨ (q'.d = false ∧ ∃ rem, nn + rem ≤ 5 ∧ AlP 3 q 3 (i : Int) s sj rem))) (fun nv _ => 6 - (intOf nv).toNat)
          case atStart => exact ⟨0, _, noEq, none, 0, rfl, by omega, C5.out, K5.out, .inr ⟨rfl, 5, by omega, HAL.out⟩⟩
          case round =>
            clear C5 K5 HAL
            obtain ⟨nn, sj, ⟨qd, qe, qn, qth⟩, A', c', rfl, hnn, hcj, hkr, hor⟩ := hrel
            have r0 := hkr.cell 0 _ rfl
            have r1 := hkr.cell 1 _ rfl
            have rl := hkr.lt
            rcases hor with ⟨hd, hfin⟩ | ⟨hd, rem, hrem, hal⟩
            · obtain rfl : qd = true := hd
              have hpv2 : ((sj.wk q).pin != 0) = true := by
                rw [hfin.pin (by omega) (by omega)]; exact HPV.out
              have HP2 := Lib.hid (epinC hcj q hql _ hpv2)
              have hsE : s.E ≤ k + nn := by
                have := hcj.ek
                rw [hfin.E (by omega)] at this; exact this
              have CJ := Lib.hid hcj
              have HFIN := Lib.hid hfin
              have HE2 := Lib.hid (fun t => eepochQ hcj (by omega) t)
              have hw1 : IntKind.i64.wrap ((s.E : Int) + 1) = (s.E : Int) + 1 := IntWalk.i64_in _ (by omega)
              have hEe : (sj.E : Int) = (s.E : Int) := by rw [hfin.E (by omega)]
              clear hcj hfin hkr hpv2
              go_wp2_with fail
              with_reducible refine HP2.out.mono ?_
              rintro e w6 ⟨rfl, hw⟩
              subst hw
              clear HP2
              go_wp2_with fail
              go_quiet (first | (go_at_call 26; with_reducible exact Calls.quiet_of_same (HE2.out _)))
              rename_i nq
              go_wp2
              go_roundw
              case rel => exact efi_end hin h3 hk hnn CJ.out HFIN.out HST.out _
              case measure => simp [intOf]; omega
            · obtain rfl : qd = false := hd
              have hpos := hal.pos
              have hp := hal.isEN
              have hnx := hal.next hql
              generalize htt : stepE 3 sj q = tt at hnx
              obtain ⟨⟨td, te, tn, tth⟩, ts, ty⟩ := tt
              have HSP := Lib.hid (estepC hcj (by omega) q hql hp _ htt)
              have HKR := Lib.hid hkr
              have HNX := Lib.hid hnx
              have j7 : ¬ (7 : Int) < (nn : Int) := by omega
              clear hcj hkr hal hp htt hnx
              go_wp2_with fail
              with_reducible refine HSP.out.mono ?_
              rintro e w6 ⟨A2, c2, rfl, c6, o6, f6⟩
              have c6 : EpC w w6 x 3 (thX A2 ++ [w4.heap.size]) (k + nn + 1) (ts.nx q ty) := c6
              have kr6 := f6.blk HKR.out (.inr (by simp))
              have z0 := kr6.cell 0 _ rfl
              have z1 := kr6.cell 1 _ rfl
              have z2 := kr6.cell 2 _ rfl
              have z3 := kr6.cell 3 _ rfl
              have y0 := kr6.froz 0 (by simp)
              have y1 := kr6.froz 1 (by simp)
              have y2 := kr6.froz 2 (by simp)
              have y3 := kr6.froz 3 (by simp)
              have zl := kr6.lt
              have hp := off_put4 (Off.refl [w4.heap.size] w6) (r := w4.heap.size) (by simp) (.bool td) (.int .i64 (te : Int)) (.int .i64 tn) (.slice A2 tth.length c2)
              have kf := kr6.put4 (.bool td) (.int .i64 (te : Int)) (.int .i64 tn) (.slice A2 tth.length c2)
              have HALL := Lib.hid (And.intro ((c6.putX hp (fun y hy => by simp only [List.mem_cons, List.not_mem_nil, or_false] at hy; subst hy; exact ⟨by simp, hw4⟩)).weak (X' := [w4.heap.size]) (fun y hy => List.mem_append_right _ hy)) kf)
              clear c6 kr6 o6 f6 hp kf HSP
              go_wp2
              go_roundw
              case rel =>
                refine ⟨nn + 1, ts.nx q ty, ⟨td, te, tn, tth⟩, A2, c2, by go_num, by omega, HALL.out.1, HALL.out.2, ?_⟩
                rcases HNX.out with ⟨h1, h2⟩ | ⟨h1, rem', h2, h3⟩
                · exact .inl ⟨h1, h2⟩
                · exact .inr ⟨by have := congrArg EqV.d h1; exact this, rem', by omega, h3⟩
              case measure => simp [intOf]; omega
        · skip
          have hck : checkE (s.wk q) 4 = 0 := by
            have := HST.out.2 q hql
            have h9 := HPV.out
            simp [checkE, HST.out.1 q hql, isEN] at h9 ⊢ <;> omega
          have HS : Hid (Calls Try.prog 16 #[PV x, IV q, .int .u8 4, .int .i64 (i : Int)] _ _) := Lib.hid (estartC CP.out q hql 4 (i : Int) (by omega) (by omega) hck)
          have HAL := Lib.hid (AlP.start CP.out.inv hql (by omega) (by omega) hck (i : Int))
          go_wp2_with fail
          with_reducible refine HS.out.mono ?_
          rintro e w4 ⟨rfl, c4, _⟩
          have HE := Lib.hid (eepochC c4 (by omega))
          rw [EpV.E_nx] at HE
          have C4 := Lib.hid c4
          clear c4 HS
          go_wp2_with fail
          with_reducible refine HE.out.mono ?_
          rintro e w5 ⟨rfl, hw⟩
          subst hw
          have c5 := C4.out.newX RB
          have K5 := Lib.hid (BlkL.new w4 [.bool false, .int .i64 0, .int .i64 0, .slice none 0 0] 37)
          have C5 := Lib.hid c5
          have hw4 : w.heap.size ≤ w4.heap.size := C4.out.bel.size
          clear c5 C4 HE CP
          go_wp2
          go_loopw [13] (fun nv wl => ∃ (nn : Nat) (sj : EpV) (q' : EqV) (A' : Option Addr) (c' : Nat), nv = .int .i64 ((nn : Nat) : Int) ∧ nn ≤ 5 ∧ EpC w wl x 3 [w4.heap.size] (k + nn) sj ∧ BlkL wl w4.heap.size [.bool q'.d, .int .i64 (q'.e : Int), .int .i64 q'.n, .slice A' q'.th.length c'] ∧ ((q'.d = true ∧ FinP 3 q 4 (i : Int) s q' sj) ∨ (q'.d = false ∧ ∃ rem, nn + rem ≤ 5 ∧ AlP 3 q 4 (i : Int) s sj rem))) (fun nv _ => 6 - (intOf nv).toNat)
          case atStart => exact ⟨0, _, noEq, none, 0, rfl, by omega, C5.out, K5.out, .inr ⟨rfl, 5, by omega, HAL.out⟩⟩
          case round =>
            clear C5 K5 HAL
            obtain ⟨nn, sj, ⟨qd, qe, qn, qth⟩, A', c', rfl, hnn, hcj, hkr, hor⟩ := hrel
            have r0 := hkr.cell 0 _ rfl
            have r1 := hkr.cell 1 _ rfl
            have rl := hkr.lt
            rcases hor with ⟨hd, hfin⟩ | ⟨hd, rem, hrem, hal⟩
            · obtain rfl : qd = true := hd
              have hpv2 : ((sj.wk q).pin != 0) = false := by
                rw [hfin.pin (by omega) (by omega)]; exact HPV.out
              have HP2 := Lib.hid (epinC hcj q hql _ hpv2)
              have hsE : s.E ≤ k + nn := by
                have := hcj.ek
                rcases hfin.o4 rfl with ⟨_, _, he⟩ | ⟨_, _, he⟩ <;> omega
              have CJ := Lib.hid hcj
              have HFIN := Lib.hid hfin
              have HE2 := Lib.hid (fun t => eepochQ hcj (by omega) t)
              have hw1 : IntKind.i64.wrap ((s.E : Int) + 1) = (s.E : Int) + 1 := IntWalk.i64_in _ (by omega)
              rcases hfin.o4 rfl with ⟨_, hq, he⟩ | ⟨_, hq, he⟩
              · injection hq with _ g2 g3 g4
                subst g2
                have hEe : (sj.E : Int) = (s.E : Int) + 1 := by omega
                clear hcj hfin hkr hpv2 he g3 g4
                go_wp2_with fail
                with_reducible refine HP2.out.mono ?_
                rintro e w6 ⟨rfl, hw⟩
                subst hw
                clear HP2
                go_wp2_with fail
                go_quiet (first | (go_at_call 26; with_reducible exact Calls.quiet_of_same (HE2.out _)))
                rename_i nq
                go_wp2
                go_roundw
                case rel => exact efi_end hin h3 hk hnn CJ.out HFIN.out HST.out _
                case measure => simp [intOf]; omega
              · injection hq with _ g2 g3 g4
                subst g2
                have hEe : (sj.E : Int) = (s.E : Int) := by omega
                have hne : ¬ (s.E : Int) = (s.E : Int) + 1 := by omega
                clear hcj hfin hkr hpv2 he g3 g4
                go_wp2_with fail
                with_reducible refine HP2.out.mono ?_
                rintro e w6 ⟨rfl, hw⟩
                subst hw
                clear HP2
                go_wp2_with fail
                go_quiet (first | (go_at_call 26; with_reducible exact Calls.quiet_of_same (HE2.out _)))
                rename_i nq
                go_wp2
                go_roundw
                case rel => exact efi_end hin h3 hk hnn CJ.out HFIN.out HST.out _
                case measure => simp [intOf]; omega
            · obtain rfl : qd = false := hd
              have hpos := hal.pos
              have hp := hal.isEN
              have hnx := hal.next hql
              generalize htt : stepE 3 sj q = tt at hnx
              obtain ⟨⟨td, te, tn, tth⟩, ts, ty⟩ := tt
              have HSP := Lib.hid (estepC hcj (by omega) q hql hp _ htt)
              have HKR := Lib.hid hkr
              have HNX := Lib.hid hnx
              have j7 : ¬ (7 : Int) < (nn : Int) := by omega
              clear hcj hkr hal hp htt hnx
              go_wp2_with fail
              with_reducible refine HSP.out.mono ?_
              rintro e w6 ⟨A2, c2, rfl, c6, o6, f6⟩
              have c6 : EpC w w6 x 3 (thX A2 ++ [w4.heap.size]) (k + nn + 1) (ts.nx q ty) := c6
              have kr6 := f6.blk HKR.out (.inr (by simp))
              have z0 := kr6.cell 0 _ rfl
              have z1 := kr6.cell 1 _ rfl
              have z2 := kr6.cell 2 _ rfl
              have z3 := kr6.cell 3 _ rfl
              have y0 := kr6.froz 0 (by simp)
              have y1 := kr6.froz 1 (by simp)
              have y2 := kr6.froz 2 (by simp)
              have y3 := kr6.froz 3 (by simp)
              have zl := kr6.lt
              have hp := off_put4 (Off.refl [w4.heap.size] w6) (r := w4.heap.size) (by simp) (.bool td) (.int .i64 (te : Int)) (.int .i64 tn) (.slice A2 tth.length c2)
              have kf := kr6.put4 (.bool td) (.int .i64 (te : Int)) (.int .i64 tn) (.slice A2 tth.length c2)
              have HALL := Lib.hid (And.intro ((c6.putX hp (fun y hy => by simp only [List.mem_cons, List.not_mem_nil, or_false] at hy; subst hy; exact ⟨by simp, hw4⟩)).weak (X' := [w4.heap.size]) (fun y hy => List.mem_append_right _ hy)) kf)
              clear c6 kr6 o6 f6 hp kf HSP
              go_wp2
              go_roundw
              case rel =>
                refine ⟨nn + 1, ts.nx q ty, ⟨td, te, tn, tth⟩, A2, c2, by go_num, by omega, HALL.out.1, HALL.out.2, ?_⟩
                rcases HNX.out with ⟨h1, h2⟩ | ⟨h1, rem', h2, h3⟩
                · exact .inl ⟨h1, h2⟩
                · exact .inr ⟨by have := congrArg EqV.d h1; exact this, rem', by omega, h3⟩
              case measure => simp [intOf]; omega
        · skip
          have hck : checkE (s.wk q) 4 = 0 := by
            have := HST.out.2 q hql
            have h9 := HPV.out
            simp [checkE, HST.out.1 q hql, isEN] at h9 ⊢ <;> omega
          have HS : Hid (Calls Try.prog 16 #[PV x, IV q, .int .u8 4, .int .i64 (i : Int)] _ _) := Lib.hid (estartC CP.out q hql 4 (i : Int) (by omega) (by omega) hck)
          have HAL := Lib.hid (AlP.start CP.out.inv hql (by omega) (by omega) hck (i : Int))
          go_wp2_with fail
          with_reducible refine HS.out.mono ?_
          rintro e w4 ⟨rfl, c4, _⟩
          have HE := Lib.hid (eepochC c4 (by omega))
          rw [EpV.E_nx] at HE
          have C4 := Lib.hid c4
          clear c4 HS
          go_wp2_with fail
          with_reducible refine HE.out.mono ?_
          rintro e w5 ⟨rfl, hw⟩
          subst hw
          have c5 := C4.out.newX RB
          have K5 := Lib.hid (BlkL.new w4 [.bool false, .int .i64 0, .int .i64 0, .slice none 0 0] 37)
          have C5 := Lib.hid c5
          have hw4 : w.heap.size ≤ w4.heap.size := C4.out.bel.size
          clear c5 C4 HE CP
          go_wp2
          go_loopw [13] (fun nv wl => ∃ (nn : Nat) (sj : EpV) (q' : EqV) (A' : Option Addr) (c' : Nat), nv = .int .i64 ((nn : Nat) : Int) ∧ nn ≤ 5 ∧ EpC w wl x 3 [w4.heap.size] (k + nn) sj ∧ BlkL wl w4.heap.size [.bool q'.d, .int .i64 (q'.e : Int), .int .i64 q'.n, .slice A' q'.th.length c'] ∧ ((q'.d = true ∧ FinP 3 q 4 (i : Int) s q' sj) ∨ (q'.d = false ∧ ∃ rem, nn + rem ≤ 5 ∧ AlP 3 q 4 (i : Int) s sj rem))) (fun nv _ => 6 - (intOf nv).toNat)
          case atStart => exact ⟨0, _, noEq, none, 0, rfl, by omega, C5.out, K5.out, .inr ⟨rfl, 5, by omega, HAL.out⟩⟩
          case round =>
            clear C5 K5 HAL
            obtain ⟨nn, sj, ⟨qd, qe, qn, qth⟩, A', c', rfl, hnn, hcj, hkr, hor⟩ := hrel
            have r0 := hkr.cell 0 _ rfl
            have r1 := hkr.cell 1 _ rfl
            have rl := hkr.lt
            rcases hor with ⟨hd, hfin⟩ | ⟨hd, rem, hrem, hal⟩
            · obtain rfl : qd = true := hd
              have hpv2 : ((sj.wk q).pin != 0) = true := by
                rw [hfin.pin (by omega) (by omega)]; exact HPV.out
              have HP2 := Lib.hid (epinC hcj q hql _ hpv2)
              have hsE : s.E ≤ k + nn := by
                have := hcj.ek
                rcases hfin.o4 rfl with ⟨_, _, he⟩ | ⟨_, _, he⟩ <;> omega
              have CJ := Lib.hid hcj
              have HFIN := Lib.hid hfin
              have HE2 := Lib.hid (fun t => eepochQ hcj (by omega) t)
              have hw1 : IntKind.i64.wrap ((s.E : Int) + 1) = (s.E : Int) + 1 := IntWalk.i64_in _ (by omega)
              rcases hfin.o4 rfl with ⟨_, hq, he⟩ | ⟨_, hq, he⟩
              · injection hq with _ g2 g3 g4
                subst g2
                have hEe : (sj.E : Int) = (s.E : Int) + 1 := by omega
                clear hcj hfin hkr hpv2 he g3 g4
                go_wp2_with fail
                with_reducible refine HP2.out.mono ?_
                rintro e w6 ⟨rfl, hw⟩
                subst hw
                clear HP2
                go_wp2_with fail
                go_quiet (first | (go_at_call 26; with_reducible exact Calls.quiet_of_same (HE2.out _)))
                rename_i nq
                go_wp2
                go_roundw
                case rel => exact efi_end hin h3 hk hnn CJ.out HFIN.out HST.out _
                case measure => simp [intOf]; omega
              · injection hq with _ g2 g3 g4
                subst g2
                have hEe : (sj.E : Int) = (s.E : Int) := by omega
                have hne : ¬ (s.E : Int) = (s.E : Int) + 1 := by omega
                clear hcj hfin hkr hpv2 he g3 g4
                go_wp2_with fail
                with_reducible refine HP2.out.mono ?_
                rintro e w6 ⟨rfl, hw⟩
                subst hw
                clear HP2
                go_wp2_with fail
                go_quiet (first | (go_at_call 26; with_reducible exact Calls.quiet_of_same (HE2.out _)))
                rename_i nq
                go_wp2
                go_roundw
                case rel => exact efi_end hin h3 hk hnn CJ.out HFIN.out HST.out _
                case measure => simp [intOf]; omega
            · obtain rfl : qd = false := hd
              have hpos := hal.pos
              have hp := hal.isEN
              have hnx := hal.next hql
              generalize htt : stepE 3 sj q = tt at hnx
              obtain ⟨⟨td, te, tn, tth⟩, ts, ty⟩ := tt
              have HSP := Lib.hid (estepC hcj (by omega) q hql hp _ htt)
              have HKR := Lib.hid hkr
              have HNX := Lib.hid hnx
              have j7 : ¬ (7 : Int) < (nn : Int) := by omega
              clear hcj hkr hal hp htt hnx
              go_wp2_with fail
              with_reducible refine HSP.out.mono ?_
              rintro e w6 ⟨A2, c2, rfl, c6, o6, f6⟩
              have c6 : EpC w w6 x 3 (thX A2 ++ [w4.heap.size]) (k + nn + 1) (ts.nx q ty) := c6
              have kr6 := f6.blk HKR.out (.inr (by simp))
              have z0 := kr6.cell 0 _ rfl
              have z1 := kr6.cell 1 _ rfl
              have z2 := kr6.cell 2 _ rfl
              have z3 := kr6.cell 3 _ rfl
              have y0 := kr6.froz 0 (by simp)
              have y1 := kr6.froz 1 (by simp)
              have y2 := kr6.froz 2 (by simp)
              have y3 := kr6.froz 3 (by simp)
              have zl := kr6.lt
              have hp := off_put4 (Off.refl [w4.heap.size] w6) (r := w4.heap.size) (by simp) (.bool td) (.int .i64 (te : Int)) (.int .i64 tn) (.slice A2 tth.length c2)
              have kf := kr6.put4 (.bool td) (.int .i64 (te : Int)) (.int .i64 tn) (.slice A2 tth.length c2)
              have HALL := Lib.hid (And.intro ((c6.putX hp (fun y hy => by simp only [List.mem_cons, List.not_mem_nil, or_false] at hy; subst hy; exact ⟨by simp, hw4⟩)).weak (X' := [w4.heap.size]) (fun y hy => List.mem_append_right _ hy)) kf)
              clear c6 kr6 o6 f6 hp kf HSP
              go_wp2
              go_roundw
              case rel =>
                refine ⟨nn + 1, ts.nx q ty, ⟨td, te, tn, tth⟩, A2, c2, by go_num, by omega, HALL.out.1, HALL.out.2, ?_⟩
                rcases HNX.out with ⟨h1, h2⟩ | ⟨h1, rem', h2, h3⟩
                · exact .inl ⟨h1, h2⟩
                · exact .inr ⟨by have := congrArg EqV.d h1; exact this, rem', by omega, h3⟩
              case measure => simp [intOf]; omega
        · skip
          have hck : checkE (s.wk q) 5 = 0 := by
            have := HST.out.2 q hql
            have h9 := HPV.out
            simp [checkE, HST.out.1 q hql, isEN] at h9 ⊢ <;> omega
          have HS : Hid (Calls Try.prog 16 #[PV x, IV q, .int .u8 5, .int .i64 (i : Int)] _ _) := Lib.hid (estartC CP.out q hql 5 (i : Int) (by omega) (by omega) hck)
          have HAL := Lib.hid (AlP.start CP.out.inv hql (by omega) (by omega) hck (i : Int))
          go_wp2_with fail
          with_reducible refine HS.out.mono ?_
          rintro e w4 ⟨rfl, c4, _⟩
          have HE := Lib.hid (eepochC c4 (by omega))
          rw [EpV.E_nx] at HE
          have C4 := Lib.hid c4
          clear c4 HS
          go_wp2_with fail
          with_reducible refine HE.out.mono ?_
          rintro e w5 ⟨rfl, hw⟩
          subst hw
          have c5 := C4.out.newX RB
          have K5 := Lib.hid (BlkL.new w4 [.bool false, .int .i64 0, .int .i64 0, .slice none 0 0] 37)
          have C5 := Lib.hid c5
          have hw4 : w.heap.size ≤ w4.heap.size := C4.out.bel.size
          clear c5 C4 HE CP
          go_wp2
          go_loopw [13] (fun nv wl => ∃ (nn : Nat) (sj : EpV) (q' : EqV) (A' : Option Addr) (c' : Nat), nv = .int .i64 ((nn : Nat) : Int) ∧ nn ≤ 5 ∧ EpC w wl x 3 [w4.heap.size] (k + nn) sj ∧ BlkL wl w4.heap.size [.bool q'.d, .int .i64 (q'.e : Int), .int .i64 q'.n, .slice A' q'.th.length c'] ∧ ((q'.d = true ∧ FinP 3 q 5 (i : Int) s q' sj) ∨ (q'.d = false ∧ ∃ rem, nn + rem ≤ 5 ∧ AlP 3 q 5 (i : Int) s sj rem))) (fun nv _ => 6 - (intOf nv).toNat)
          case atStart => exact ⟨0, _, noEq, none, 0, rfl, by omega, C5.out, K5.out, .inr ⟨rfl, 5, by omega, HAL.out⟩⟩
          case round =>
            clear C5 K5 HAL
            obtain ⟨nn, sj, ⟨qd, qe, qn, qth⟩, A', c', rfl, hnn, hcj, hkr, hor⟩ := hrel
            have r0 := hkr.cell 0 _ rfl
            have r1 := hkr.cell 1 _ rfl
            have rl := hkr.lt
            rcases hor with ⟨hd, hfin⟩ | ⟨hd, rem, hrem, hal⟩
            · obtain rfl : qd = true := hd
              have hpv2 : ((sj.wk q).pin != 0) = false := by
                rw [hfin.pin (by omega) (by omega)]; exact HPV.out
              have HP2 := Lib.hid (epinC hcj q hql _ hpv2)
              have hsE : s.E ≤ k + nn := by
                have := hcj.ek
                rw [hfin.E (by omega)] at this; exact this
              have CJ := Lib.hid hcj
              have HFIN := Lib.hid hfin
              have HE2 := Lib.hid (fun t => eepochQ hcj (by omega) t)
              have hw1 : IntKind.i64.wrap ((s.E : Int) + 1) = (s.E : Int) + 1 := IntWalk.i64_in _ (by omega)
              have hEe : (sj.E : Int) = (s.E : Int) := by rw [hfin.E (by omega)]
              clear hcj hfin hkr hpv2
              go_wp2_with fail
              with_reducible refine HP2.out.mono ?_
              rintro e w6 ⟨rfl, hw⟩
              subst hw
              clear HP2
              go_wp2_with fail
              go_quiet (first | (go_at_call 26; with_reducible exact Calls.quiet_of_same (HE2.out _)))
              rename_i nq
              go_wp2
              go_roundw
              case rel => exact efi_end hin h3 hk hnn CJ.out HFIN.out HST.out _
              case measure => simp [intOf]; omega
            · obtain rfl : qd = false := hd
              have hpos := hal.pos
              have hp := hal.isEN
              have hnx := hal.next hql
              generalize htt : stepE 3 sj q = tt at hnx
              obtain ⟨⟨td, te, tn, tth⟩, ts, ty⟩ := tt
              have HSP := Lib.hid (estepC hcj (by omega) q hql hp _ htt)
              have HKR := Lib.hid hkr
              have HNX := Lib.hid hnx
              have j7 : ¬ (7 : Int) < (nn : Int) := by omega
              clear hcj hkr hal hp htt hnx
              go_wp2_with fail
              with_reducible refine HSP.out.mono ?_
              rintro e w6 ⟨A2, c2, rfl, c6, o6, f6⟩
              have c6 : EpC w w6 x 3 (thX A2 ++ [w4.heap.size]) (k + nn + 1) (ts.nx q ty) := c6
              have kr6 := f6.blk HKR.out (.inr (by simp))
              have z0 := kr6.cell 0 _ rfl
              have z1 := kr6.cell 1 _ rfl
              have z2 := kr6.cell 2 _ rfl
              have z3 := kr6.cell 3 _ rfl
              have y0 := kr6.froz 0 (by simp)
              have y1 := kr6.froz 1 (by simp)
              have y2 := kr6.froz 2 (by simp)
              have y3 := kr6.froz 3 (by simp)
              have zl := kr6.lt
              have hp := off_put4 (Off.refl [w4.heap.size] w6) (r := w4.heap.size) (by simp) (.bool td) (.int .i64 (te : Int)) (.int .i64 tn) (.slice A2 tth.length c2)
              have kf := kr6.put4 (.bool td) (.int .i64 (te : Int)) (.int .i64 tn) (.slice A2 tth.length c2)
              have HALL := Lib.hid (And.intro ((c6.putX hp (fun y hy => by simp only [List.mem_cons, List.not_mem_nil, or_false] at hy; subst hy; exact ⟨by simp, hw4⟩)).weak (X' := [w4.heap.size]) (fun y hy => List.mem_append_right _ hy)) kf)
              clear c6 kr6 o6 f6 hp kf HSP
              go_wp2
              go_roundw
              case rel =>
                refine ⟨nn + 1, ts.nx q ty, ⟨td, te, tn, tth⟩, A2, c2, by go_num, by omega, HALL.out.1, HALL.out.2, ?_⟩
                rcases HNX.out with ⟨h1, h2⟩ | ⟨h1, rem', h2, h3⟩
                · exact .inl ⟨h1, h2⟩
                · exact .inr ⟨by have := congrArg EqV.d h1; exact this, rem', by omega, h3⟩
              case measure => simp [intOf]; omega
        · skip
          have hck : checkE (s.wk q) 5 = 0 := by
            have := HST.out.2 q hql
            have h9 := HPV.out
            simp [checkE, HST.out.1 q hql, isEN] at h9 ⊢ <;> omega
          have HS : Hid (Calls Try.prog 16 #[PV x, IV q, .int .u8 5, .int .i64 (i : Int)] _ _) := Lib.hid (estartC CP.out q hql 5 (i : Int) (by omega) (by omega) hck)
          have HAL := Lib.hid (AlP.start CP.out.inv hql (by omega) (by omega) hck (i : Int))
          go_wp2_with fail
          with_reducible refine HS.out.mono ?_
          rintro e w4 ⟨rfl, c4, _⟩
          have HE := Lib.hid (eepochC c4 (by omega))
          rw [EpV.E_nx] at HE
          have C4 := Lib.hid c4
          clear c4 HS
          go_wp2_with fail
          with_reducible refine HE.out.mono ?_
          rintro e w5 ⟨rfl, hw⟩
          subst hw
          have c5 := C4.out.newX RB
          have K5 := Lib.hid (BlkL.new w4 [.bool false, .int .i64 0, .int .i64 0, .slice none 0 0] 37)
          have C5 := Lib.hid c5
          have hw4 : w.heap.size ≤ w4.heap.size := C4.out.bel.size
          clear c5 C4 HE CP
          go_wp2
          go_loopw [13] (fun nv wl => ∃ (nn : Nat) (sj : EpV) (q' : EqV) (A' : Option Addr) (c' : Nat), nv = .int .i64 ((nn : Nat) : Int) ∧ nn ≤ 5 ∧ EpC w wl x 3 [w4.heap.size] (k + nn) sj ∧ BlkL wl w4.heap.size [.bool q'.d, .int .i64 (q'.e : Int), .int .i64 q'.n, .slice A' q'.th.length c'] ∧ ((q'.d = true ∧ FinP 3 q 5 (i : Int) s q' sj) ∨ (q'.d = false ∧ ∃ rem, nn + rem ≤ 5 ∧ AlP 3 q 5 (i : Int) s sj rem))) (fun nv _ => 6 - (intOf nv).toNat)
          case atStart => exact ⟨0, _, noEq, none, 0, rfl, by omega, C5.out, K5.out, .inr ⟨rfl, 5, by omega, HAL.out⟩⟩
          case round =>
            clear C5 K5 HAL
            obtain ⟨nn, sj, ⟨qd, qe, qn, qth⟩, A', c', rfl, hnn, hcj, hkr, hor⟩ := hrel
            have r0 := hkr.cell 0 _ rfl
            have r1 := hkr.cell 1 _ rfl
            have rl := hkr.lt
            rcases hor with ⟨hd, hfin⟩ | ⟨hd, rem, hrem, hal⟩
            · obtain rfl : qd = true := hd
              have hpv2 : ((sj.wk q).pin != 0) = true := by
                rw [hfin.pin (by omega) (by omega)]; exact HPV.out
              have HP2 := Lib.hid (epinC hcj q hql _ hpv2)
              have hsE : s.E ≤ k + nn := by
                have := hcj.ek
                rw [hfin.E (by omega)] at this; exact this
              have CJ := Lib.hid hcj
              have HFIN := Lib.hid hfin
              have HE2 := Lib.hid (fun t => eepochQ hcj (by omega) t)
              have hw1 : IntKind.i64.wrap ((s.E : Int) + 1) = (s.E : Int) + 1 := IntWalk.i64_in _ (by omega)
              have hEe : (sj.E : Int) = (s.E : Int) := by rw [hfin.E (by omega)]
              clear hcj hfin hkr hpv2
              go_wp2_with fail
              with_reducible refine HP2.out.mono ?_
              rintro e w6 ⟨rfl, hw⟩
              subst hw
              clear HP2
              go_wp2_with fail
              go_quiet (first | (go_at_call 26; with_reducible exact Calls.quiet_of_same (HE2.out _)))
              rename_i nq
              go_wp2
              go_roundw
              case rel => exact efi_end hin h3 hk hnn CJ.out HFIN.out HST.out _
              case measure => simp [intOf]; omega
            · obtain rfl : qd = false := hd
              have hpos := hal.pos
              have hp := hal.isEN
              have hnx := hal.next hql
              generalize htt : stepE 3 sj q = tt at hnx
              obtain ⟨⟨td, te, tn, tth⟩, ts, ty⟩ := tt
              have HSP := Lib.hid (estepC hcj (by omega) q hql hp _ htt)
              have HKR := Lib.hid hkr
              have HNX := Lib.hid hnx
              have j7 : ¬ (7 : Int) < (nn : Int) := by omega
              clear hcj hkr hal hp htt hnx
              go_wp2_with fail
              with_reducible refine HSP.out.mono ?_
              rintro e w6 ⟨A2, c2, rfl, c6, o6, f6⟩
              have c6 : EpC w w6 x 3 (thX A2 ++ [w4.heap.size]) (k + nn + 1) (ts.nx q ty) := c6
              have kr6 := f6.blk HKR.out (.inr (by simp))
              have z0 := kr6.cell 0 _ rfl
              have z1 := kr6.cell 1 _ rfl
              have z2 := kr6.cell 2 _ rfl
              have z3 := kr6.cell 3 _ rfl
              have y0 := kr6.froz 0 (by simp)
              have y1 := kr6.froz 1 (by simp)
              have y2 := kr6.froz 2 (by simp)
              have y3 := kr6.froz 3 (by simp)
              have zl := kr6.lt
              have hp := off_put4 (Off.refl [w4.heap.size] w6) (r := w4.heap.size) (by simp) (.bool td) (.int .i64 (te : Int)) (.int .i64 tn) (.slice A2 tth.length c2)
              have kf := kr6.put4 (.bool td) (.int .i64 (te : Int)) (.int .i64 tn) (.slice A2 tth.length c2)
              have HALL := Lib.hid (And.intro ((c6.putX hp (fun y hy => by simp only [List.mem_cons, List.not_mem_nil, or_false] at hy; subst hy; exact ⟨by simp, hw4⟩)).weak (X' := [w4.heap.size]) (fun y hy => List.mem_append_right _ hy)) kf)
              clear c6 kr6 o6 f6 hp kf HSP
              go_wp2
              go_roundw
              case rel =>
                refine ⟨nn + 1, ts.nx q ty, ⟨td, te, tn, tth⟩, A2, c2, by go_num, by omega, HALL.out.1, HALL.out.2, ?_⟩
                rcases HNX.out with ⟨h1, h2⟩ | ⟨h1, rem', h2, h3⟩
                · exact .inl ⟨h1, h2⟩
                · exact .inr ⟨by have := congrArg EqV.d h1; exact this, rem', by omega, h3⟩
              case measure => simp [intOf]; omega
      · have h3' : (200 : Int) ≤ (i : Int) := by omega
        have C1 := Lib.hid (hc.alloc (.cells #[.int .i64 who, .int .u8 (op : Int), .int .i64 thing] 32))
        clear hc hnx hgs
        go_wp2
        go_ret
        exact ⟨rfl, C1.out.bel⟩
    · obtain rfl : i = n := by omega
      have j1 : ¬ (i : Int) < (i : Int) := by omega
      have C1 := Lib.hid hc
      clear hc hnx hgs
      go_wp2
      go_ret
      exact ⟨rfl, C1.out.bel⟩
end Go.Proofs.Ytpjgpiiibgogeaa
