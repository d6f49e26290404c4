/- CauseDeep: its walk, where somebody recovers. -/
import Derived.Test.YtoanpcnkaoigpaaDoorDeW
import Derived.BigQuiet
namespace Go.Proofs.YtoanpcnkaoigpaaDoor
open Go.RowKit
set_option maxRecDepth 100000
set_option linter.unusedVariables false
set_option linter.unusedSimpArgs false
set_option maxHeartbeats 4000000

theorem FMk_snocL (l : List MarkV) (x : MarkV) : FMk (l ++ [x]) = FMk l ++ [.int .u8 (x.1 : Int), .int .u8 (x.2.1 : Int), .int .i64 x.2.2] := by simp [FMk, MkV]
theorem srcML (w : World) (x y z : Value) (hx : x.oneCell' = true) (hy : y.oneCell' = true) (hz : z.oneCell' = true) (t : TypeId) : SrcS (w.alloc (.cells #[x, y, z] t)) 3 (some ⟨w.heap.size, 0, none⟩) 1 [x, y, z] :=
  BlkL.srcS (BlkL.new w [x, y, z] t) (by simp [hx, hy, hz]) 1 rfl
theorem neqlEndL (K : Nat) (m : Int) (hK : 11 ≤ K) (w : World) : (binOp .eql 26 (.agg #[.int .u8 0, .int .i64 0]) (.agg #[.int .u8 (K : Int), .int .i64 m])).run Tryd.prog w = .ok (.bool false) w := by
  have h : ((0 : Int) == (K : Int)) = false := beq_eq_false_iff_ne.2 (by omega)
  simp [go_sem, Result.andThen, h]
theorem causeDeep_l {w0 : World} (dep at_ cl : Nat) (n : Int) (w : World) (h0 : Lib0 w0) (hb : Below w0.heap.size w0 w) (hdep : dep < 256) (hat : at_ < 256) (hcl : cl < 256) (hn1 : -9223372036854775808 ≤ n) (hn2 : n ≤ 9223372036854775807) (hx : at_ % (1 + dep % 12 + 1) < 1 + dep % 12) :
    Calls Tryd.prog 5 #[.int .u8 (dep : Int), .int .u8 (at_ : Int), .int .u8 (cl : Int), .int .i64 n] w fun e w' => e = .returned (.bool true) ∧ Below w.heap.size w w' := by
  obtain ⟨iM, hiM, hM0, hM1, hM2⟩ := info_partsMk
  have HA := Lib.hid (awake9_any h0 hb)
  have H0 := Lib.hid h0
  have HB := Lib.hid hb
  obtain ⟨K, hK⟩ : ∃ K, 11 + cl % 14 = K := ⟨_, rfl⟩
  obtain ⟨m, hm⟩ : ∃ m, (endV K n).2 = m := ⟨_, rfl⟩
  have hK1 : 11 ≤ K ∧ K ≤ 24 := by omega
  have HRA : Hid (∀ W, Calls Tryd.prog 12 #[.int .u8 (cl : Int), .int .i64 n] W fun e w' => e = .returned (.tuple #[.agg #[.int .u8 (K : Int), .int .i64 n], .agg #[.int .u8 (K : Int), .int .i64 m]]) ∧ Below W.heap.size W w') := Lib.hid (fun W => raises_any W cl K n m hcl hK.symm hm.symm)
  obtain ⟨q, hq⟩ : ∃ q, dep % 12 = q := ⟨_, rfl⟩
  have hq12 : q < 12 := by omega
  rw [hq] at hx
  obtain ⟨d, hd⟩ : ∃ d, 1 + q = d := ⟨_, rfl⟩
  have hd1 : 1 ≤ d ∧ d ≤ 12 := by omega
  rw [hd] at hx
  obtain ⟨kk, hkk⟩ : ∃ kk, at_ % (d + 1) = kk := ⟨_, rfl⟩
  rw [hkk] at hx
  have t1 : Int.tmod (dep : Int) 12 = (q : Int) := by rw [Int.tmod_eq_emod_of_nonneg (by omega)]; omega
  have t2 : IntKind.u8.wrap (q : Int) = (q : Int) := by simp [IntKind.wrap, IntKind.bits, IntKind.signed]; omega
  have t3 : IntKind.i64.wrap (q : Int) = (q : Int) := IntWalk.i64_in _ (by omega)
  have t4 : IntKind.i64.wrap (1 + (q : Int)) = (d : Int) := by rw [IntWalk.i64_in _ (by omega)]; omega
  have t5 : IntKind.i64.wrap (at_ : Int) = (at_ : Int) := IntWalk.i64_in _ (by omega)
  have t6 : IntKind.i64.wrap ((d : Int) + 1) = (d : Int) + 1 := IntWalk.i64_in _ (by omega)
  have t7 : Int.tmod (at_ : Int) ((d : Int) + 1) = (kk : Int) := by
    rw [Int.tmod_eq_emod_of_nonneg (by omega), show ((d : Int) + 1) = ((d + 1 : Nat) : Int) from rfl, ← Int.natCast_emod, hkk]
  have t8 : ¬ (d : Int) + 1 = 0 := by omega
  have t9 : IntKind.i64.wrap (kk : Int) = (kk : Int) := IntWalk.i64_in _ (by omega)
  have t10 : IntKind.i64.wrap (2 * (d : Int)) = 2 * (d : Int) := IntWalk.i64_in _ (by omega)
  have t11 : IntKind.i64.wrap (2 * (d : Int) + 1) = 2 * (d : Int) + 1 := IntWalk.i64_in _ (by omega)
  have t12 : IntKind.i64.wrap ((d : Int) - 1) = (d : Int) - 1 := IntWalk.i64_in _ (by omega)
  have HE := Lib.hid (show endV K n = (K, m) by rw [← hm]; rfl)
  have HR := Lib.hid (And.intro hK1 (And.intro hn1 hn2))
  clear h0 hb hK hm hcl hdep hat hkk hq hd
  go_enter Tryd.func5, Tryd.ntmps5
  go_wp2_with fail
  with_reducible refine HA.out.mono ?_
  rintro e w1 ⟨rfl, hb1⟩
  have HB1 := Lib.hid hb1
  clear hb1
  go_wp2_with fail
  with_reducible refine (HRA.out w1).mono ?_
  rintro e w2 ⟨rfl, hb2⟩
  have B2 : Below w.heap.size w w2 := HB1.out.trans (hb2.mono HB1.out.size)
  have l2 := B2.size
  have k5 := (BlkL.new w2 [.int .u8 (K : Int), .int .i64 n] 24).alloc (.cells #[.int .u8 (K : Int), .int .i64 m] 26)
  have k6 := BlkL.new (w2.alloc (.cells #[.int .u8 (K : Int), .int .i64 n] 24)) [.int .u8 (K : Int), .int .i64 m] 26
  rw [show (w2.alloc (.cells #[.int .u8 (K : Int), .int .i64 n] 24)).heap.size = w2.heap.size + 1 by simp] at k6
  have B3 : Below w.heap.size w ((w2.alloc (.cells #[.int .u8 (K : Int), .int .i64 n] 24)).alloc (.cells #[.int .u8 (K : Int), .int .i64 m] 26)) := (B2.alloc l2 _).alloc (by simp <;> omega) _
  go_upto_region 6 with (fail)
  revert B3 k5 k6
  generalize (w2.alloc (.cells #[.int .u8 (K : Int), .int .i64 n] 24)).alloc (.cells #[.int .u8 (K : Int), .int .i64 m] 26) = w3
  generalize w2.heap.size = p9
  intro k5 k6 B3
  have HB3 := Lib.hid B3
  have K9 := Lib.hid k5
  have K10 := Lib.hid k6
  have l3 := B3.size
  clear B2 l2 hb2 k5 k6
  go_wp2_with fail
  have hmk := mkP w3 (2 * d + 1) (by omega)
  rw [show ((2 * d + 1 : Nat) : Int) = 2 * (d : Int) + 1 by omega] at hmk
  rw [hmk]
  clear hmk
  simp only [Result.andThen]
  rw [Oper.upon_value]
  have k12 := BlkL.new w3 (List.replicate (2 * d + 1) (.slice none 0 0)) 33
  have B4 := B3.alloc l3 (.cells (List.replicate (2 * d + 1) (.slice none 0 0)).toArray 33)
  have k9 := K9.out.alloc (.cells (List.replicate (2 * d + 1) (.slice none 0 0)).toArray 33)
  have k10 := K10.out.alloc (.cells (List.replicate (2 * d + 1) (.slice none 0 0)).toArray 33)
  have h9 : p9 < w3.heap.size := K9.out.lt
  have h10 : p9 + 1 < w3.heap.size := K10.out.lt
  revert k12 B4 k9 k10 h9 h10 l3
  generalize w3.alloc (.cells (List.replicate (2 * d + 1) (.slice none 0 0)).toArray 33) = w4
  generalize w3.heap.size = ob
  intro l3 k12 B4 k9 k10 h9 h10
  have HB4 := Lib.hid B4
  have K94 := Lib.hid k9
  have K104 := Lib.hid k10
  have hob := k12.lt
  have HI := Lib.hid (LdI.start k12)
  clear B3 B4 k9 k10 k12
  go_wp2_with fail
  go_loopw [43] (fun iv wr => ∃ (i : Nat) (F : Nat → Option (Nat × List ActV)), i ≤ d ∧ iv = .int .i64 (i : Int) ∧ LdI w4 wr ob (2 * d + 1) F ∧ DeepL d kk i (K, n) F) (fun iv _ => d - (intOf iv).toNat)
  case atStart => exact ⟨0, _, Nat.zero_le _, rfl, HI.out, fun j hj => by omega⟩
  case round =>
    rename World => w5
    obtain ⟨i, F, hi, rfl, hI, hL⟩ := hrel
    have HI := Lib.hid hI
    have HL := Lib.hid hL
    clear hI hL
    rcases Nat.lt_or_ge i d with h1 | h1
    · have hii : (i : Int) < (d : Int) := by omega
      have hi1 : IntKind.i64.wrap ((i : Int) + 1) = (i : Int) + 1 := IntWalk.i64_in _ (by omega)
      have hi2 : IntKind.i64.wrap ((d : Int) + 1 + (i : Int)) = (d : Int) + 1 + (i : Int) := IntWalk.i64_in _ (by omega)
      have hi3 : IntKind.i64.wrap (100 + (i : Int)) = 100 + (i : Int) := IntWalk.i64_in _ (by omega)
      have p1 := HI.out.put hob i (by omega) (deepF d kk (K, n) i) [.int .u8 3, .int .i64 ((d : Int) + 1 + (i : Int)), .int .u8 2, .int .i64 ((i : Int) + 1), .int .u8 1, .int .i64 (100 + (i : Int))] (by simp [FAc, deepF, h1]) 24 3 (by simp [deepF, h1])
      have d0 := HI.out.out.cell i _ (by rw [List.getElem?_map, List.getElem?_range (by omega)]; rfl)
      have df := HI.out.out.froz i (by simp; omega)
      have dl := HI.out.out.lt
      go_upto_region 11 with (fail)
      revert p1
      generalize hW6 : (w5.setCell ⟨ob, i, none⟩ (.slice (some ⟨w5.heap.size, 0, none⟩) 3 3)).alloc (.cells #[.int .u8 3, .int .i64 ((d : Int) + 1 + (i : Int)), .int .u8 2, .int .i64 ((i : Int) + 1), .int .u8 1, .int .i64 (100 + (i : Int))] 24) = w6
      intro p1
      clear hW6 d0 df dl
      by_cases hik : i = kk
      · subst hik
        have hke : ((i : Int) == (i : Int)) = true := by simp
        have p2 := p1.put hob (d + 1 + i) (by omega) [((1 : Nat), (i : Int))] [.int .u8 1, .int .i64 (i : Int)] rfl 24 1 rfl
        have d0 := p1.out.cell (d + 1 + i) _ (by rw [List.getElem?_map, List.getElem?_range (by omega)]; rfl)
        have df := p1.out.froz (d + 1 + i) (by simp; omega)
        have dl := p1.out.lt
        go_upto_region 12 with (fail)
        revert p2
        generalize hW7 : (w6.setCell ⟨ob, d + 1 + i, none⟩ (.slice (some ⟨w6.heap.size, 0, none⟩) 1 1)).alloc (.cells #[.int .u8 1, .int .i64 (i : Int)] 24) = w7
        intro p2
        clear hW7 d0 df dl
        have P2 := Lib.hid p2
        have p3 := p2.put hob (d + 1 + i) (by omega) (deepF d i (K, n) (d + 1 + i)) [.int .u8 5, .int .i64 0, .int .u8 1, .int .i64 (i : Int)] (by rw [deepF_k]; rfl) 24 2 (by rw [deepF_k]; rfl)
        have P3 := Lib.hid p3
        have d0 := p2.out.cell (d + 1 + i) _ (by rw [List.getElem?_map, List.getElem?_range (by omega)]; rfl)
        have df := p2.out.froz (d + 1 + i) (by simp; omega)
        have dl := p2.out.lt
        clear p1 p2 p3
        go_wp2
        go_roundw
        case rel => exact ⟨i + 1, _, h1, rfl, P3.out, HL.out.three h1 rfl rfl⟩
        case measure => simp [intOf]; omega
      · have hke : ((i : Int) == (kk : Int)) = false := beq_eq_false_iff_ne.2 (by omega)
        have hke2 : ¬ (i : Int) = (kk : Int) := by omega
        have p2 := p1.put hob (d + 1 + i) (by omega) (deepF d kk (K, n) (d + 1 + i)) [.int .u8 1, .int .i64 (i : Int)] (by rw [deepF_n _ hik]; rfl) 24 1 (by rw [deepF_n _ hik]; rfl)
        have d0 := p1.out.cell (d + 1 + i) _ (by rw [List.getElem?_map, List.getElem?_range (by omega)]; rfl)
        have df := p1.out.froz (d + 1 + i) (by simp; omega)
        have dl := p1.out.lt
        go_upto_region 12 with (fail)
        revert p2
        generalize hW7 : (w6.setCell ⟨ob, d + 1 + i, none⟩ (.slice (some ⟨w6.heap.size, 0, none⟩) 1 1)).alloc (.cells #[.int .u8 1, .int .i64 (i : Int)] 24) = w7
        intro p2
        clear hW7 d0 df dl
        have P2 := Lib.hid p2
        clear p1 p2
        go_wp2
        go_roundw
        case rel => exact ⟨i + 1, _, h1, rfl, P2.out, HL.out.two h1 rfl rfl⟩
        case measure => simp [intOf]; omega
    · obtain rfl : d = i := by omega
      have hii : ¬ (d : Int) < (d : Int) := by omega
      have k9 := K94.out.off HI.out.off (by simp; omega)
      have z0 := k9.cell 0 _ rfl
      have z1 := k9.cell 1 _ rfl
      have zl := k9.lt
      have p3 := HI.out.put hob d (by omega) [(K, n)] [.int .u8 (K : Int), .int .i64 n] rfl 24 1 rfl
      have d0 := HI.out.out.cell d _ (by rw [List.getElem?_map, List.getElem?_range (by omega)]; rfl)
      have df := HI.out.out.froz d (by simp; omega)
      have dl := HI.out.out.lt
      have B7 : Below w.heap.size w ((w5.setCell ⟨ob, d, none⟩ (.slice (some ⟨w5.heap.size, 0, none⟩) 1 1)).alloc (.cells #[.int .u8 (K : Int), .int .i64 n] 24)) := HB4.out.trans (p3.off.below (by have := HB4.out.size; omega) (by simp; omega))
      have n10 := K104.out.off p3.off (by simp; omega)
      have hprog : ProgQ ((w5.setCell ⟨ob, d, none⟩ (.slice (some ⟨w5.heap.size, 0, none⟩) 1 1)).alloc (.cells #[.int .u8 (K : Int), .int .i64 n] 24)) ((w5.setCell ⟨ob, d, none⟩ (.slice (some ⟨w5.heap.size, 0, none⟩) 1 1)).alloc (.cells #[.int .u8 (K : Int), .int .i64 n] 24)).heap.size (.slice (some ⟨ob, 0, none⟩) (2 * d + 1) (2 * d + 1)) (deepP d kk (K, n)) := p3.prog (deepF d kk (K, n)) HL.out.all
      clear p3 k9
      go_upto_region 16 with (fail)
      revert B7 n10 hprog
      generalize (w5.setCell ⟨ob, d, none⟩ (.slice (some ⟨w5.heap.size, 0, none⟩) 1 1)).alloc (.cells #[.int .u8 (K : Int), .int .i64 n] 24) = w7
      intro B7 n10 hprog
      clear z0 z1 zl d0 df dl
      obtain ⟨MS, hMS⟩ : ∃ MS, deepM d kk (K, m) d = MS := ⟨_, rfl⟩
      obtain ⟨NL, hNL⟩ : ∃ NL, MS.length = NL := ⟨_, rfl⟩
      have hnl : NL ≤ 36 := by rw [← hNL, ← hMS]; have := deepM_len d kk (K, m) d; omega
      have hrun := run_deepP H0.out (HB.out.trans (B7.mono HB.out.size)) hd1.2 hd1.1 HR.out.1 HE.out hprog HR.out.2.1 HR.out.2.2 (0) (0) (by simp [deepO, hx, noneV]) (by simp [deepO, hx, noneV])
      rw [hMS, hNL] at hrun
      have HRUN := Lib.hid hrun
      have HMS := Lib.hid hMS
      have HNL := Lib.hid hNL
      have HB7 := Lib.hid B7
      have K107 := Lib.hid n10
      clear hrun hMS hNL B7 n10 hprog
      go_wp2_with fail
      with_reducible refine HRUN.out.mono ?_
      intro e w8 hE
      obtain ⟨A8, c8, rfl, ho8, hb8⟩ := hE
      have B8 : Below w.heap.size w w8 := HB7.out.trans (hb8.mono HB7.out.size)
      have k10 := K107.out.below hb8
      have k15 := BlkL.new w8 [.int .u8 0, .int .i64 0] 26
      have n10 := k10.alloc (.cells #[.int .u8 0, .int .i64 0] 26)
      have B9 := B8.alloc B8.size (.cells #[.int .u8 0, .int .i64 0] 26)
      have o9 := ho8.below ((Below.refl w8.heap.size w8).alloc (Nat.le_refl _) (.cells #[.int .u8 0, .int .i64 0] 26))
      clear ho8 hb8 B8 k10
      go_upto_region 17 with (fail)
      revert k15 n10 B9 o9
      generalize w8.alloc (.cells #[.int .u8 0, .int .i64 0] 26) = w9
      generalize w8.heap.size = p15
      intro k15 n10 B9 o9
      have HB9 := Lib.hid B9
      have HO9 := Lib.hid o9
      have K109 := Lib.hid n10
      have z0 := k15.cell 0 _ rfl
      have z1 := k15.cell 1 _ rfl
      have zl := k15.lt
      have y0 := n10.cell 0 _ rfl
      have y1 := n10.cell 1 _ rfl
      have yl := n10.lt
      have q1 := neqlEndL K m HR.out.1.1
      have q2 := neqEnd 0 0
      have hkd : ((kk : Int) == (d : Int)) = false := beq_eq_false_iff_ne.2 (by omega)
      have hkl : (kk : Int) < (d : Int) := by omega
      clear k15 n10 B9 o9
      go_wp2
      go_loopw [18, 19] (fun mv iv wr => ∃ (t c : Nat) (A : Option Addr), t ≤ d ∧ iv = .int .i64 ((d : Int) - 1 - (t : Int)) ∧ mv = .slice A (deepM d kk (K, m) t).length c ∧ OwnS wr w9.heap.size 3 A (deepM d kk (K, m) t).length c (FMk (deepM d kk (K, m) t)) ∧ Below w9.heap.size w9 wr) (fun _ iv _ => (intOf iv + 1).toNat)
      case atStart => exact ⟨0, 0, none, Nat.zero_le _, by simp, rfl, OwnS.nil _ _ _, Below.refl _ _⟩
      case round =>
        rename World => wa
        obtain ⟨t, c, A, ht, hiv, rfl, ho, hbe⟩ := hrel
        subst hiv
        generalize hLt : deepM d kk (K, m) t = Lt at ho ⊢
        have HBE := Lib.hid hbe
        have hll : Lt.length ≤ 36 := by rw [← hLt]; have := deepM_len d kk (K, m) t; omega
        rcases Nat.lt_or_ge t d with h2 | h2
        · obtain ⟨i, hi⟩ : ∃ i : Nat, (d : Int) - 1 - (t : Int) = (i : Int) := ⟨d - 1 - t, by omega⟩
          have hit : d - 1 - t = i := by omega
          have hid : i < d := by omega
          have hstep : deepM d kk (K, m) (t + 1) = Lt ++ deepE d kk (K, m) i := by rw [deepM, hLt, hit]
          have HST := Lib.hid hstep
          have HO := Lib.hid ho
          rw [hi]
          have HI2 := Lib.hid hi
          have g0 : (0 : Int) ≤ (i : Int) := by omega
          have gm : IntKind.i64.wrap ((i : Int) - 1) = (i : Int) - 1 := IntWalk.i64_in _ (by omega)
          have g3 : IntKind.i64.wrap (100 + (i : Int)) = 100 + (i : Int) := IntWalk.i64_in _ (by omega)
          clear hstep ho hbe hLt hit hi
          rcases Nat.lt_trichotomy i kk with hik | hik | hik
          · have r1 : (i : Int) < (kk : Int) := by omega
            have r2 : ((i : Int) == (kk : Int)) = false := beq_eq_false_iff_ne.2 (by omega)
            have r3 : ¬ i = kk := by omega
            have HSRC3 := Lib.hid (srcML wa (.int .u8 1) (.int .u8 0) (.int .i64 (100 + (i : Int))) rfl rfl rfl 36)
            have b1 := (Below.refl wa.heap.size wa).alloc (Nat.le_refl _) (.cells #[.int .u8 1, .int .u8 0, .int .i64 (100 + (i : Int))] 36)
            have HB3 := Lib.hid b1
            have HP3 := Lib.hid (HO.out.below b1)
            have hnn3 : (Lt.length + 1) * 16 ≤ 140737488355328 := by omega
            have hbb3 : w9.heap.size ≤ (wa.alloc (.cells #[.int .u8 1, .int .u8 0, .int .i64 (100 + (i : Int))] 36)).heap.size := by have := HBE.out.size; have := b1.size; omega
            clear b1
            go_wp2_with (refine wpList_append_s Tryd.underlying29 hiM hM0 hM1 hM2 rfl rfl (.tmp 130) (.tmp 134) rfl rfl HP3.out (some ⟨wa.heap.size, 0, none⟩) 1 1 _ rfl HSRC3.out (fun e => by cases e) (by omega) hnn3 hbb3 ?_)
            intro A3 c3 w3 ho3 hf3 hbk3
            have HO3 : Hid (OwnS w3 w9.heap.size 3 A3 (Lt.length + 1) c3 (FMk (Lt ++ [(1, 0, 100 + (i : Int))]))) := Lib.hid (by rw [FMk_snocL]; exact ho3)
            have HX3 : Hid (Below w9.heap.size w9 w3) := Lib.hid ((HBE.out.trans (HB3.out.mono HBE.out.size)).trans (hf3.below hbb3 (fun x hx => (HO.out.lt x hx).1)))
            clear ho3 hf3 hbk3
            have HSRC4 := Lib.hid (srcML w3 (.int .u8 1) (.int .u8 0) (.int .i64 (i : Int)) rfl rfl rfl 36)
            have b1 := (Below.refl w3.heap.size w3).alloc (Nat.le_refl _) (.cells #[.int .u8 1, .int .u8 0, .int .i64 (i : Int)] 36)
            have HB4 := Lib.hid b1
            have HP4 := Lib.hid (HO3.out.below b1)
            have hnn4 : ((Lt.length + 1) + 1) * 16 ≤ 140737488355328 := by omega
            have hbb4 : w9.heap.size ≤ (w3.alloc (.cells #[.int .u8 1, .int .u8 0, .int .i64 (i : Int)] 36)).heap.size := by have := HX3.out.size; have := b1.size; omega
            clear b1
            go_wp2_with (refine wpList_append_s Tryd.underlying29 hiM hM0 hM1 hM2 rfl rfl (.tmp 147) (.tmp 150) rfl rfl HP4.out (some ⟨w3.heap.size, 0, none⟩) 1 1 _ rfl HSRC4.out (fun e => by cases e) (by omega) hnn4 hbb4 ?_)
            intro A4 c4 w4 ho4 hf4 hbk4
            have HO4 : Hid (OwnS w4 w9.heap.size 3 A4 ((Lt.length + 1) + 1) c4 (FMk ((Lt ++ [(1, 0, 100 + (i : Int))]) ++ [(1, 0, (i : Int))]))) := Lib.hid (by rw [FMk_snocL]; exact ho4)
            have HX4 : Hid (Below w9.heap.size w9 w4) := Lib.hid ((HX3.out.trans (HB4.out.mono HX3.out.size)).trans (hf4.below hbb4 (fun x hx => (HO3.out.lt x hx).1)))
            clear ho4 hf4 hbk4
            have hfin : deepM d kk (K, m) (t + 1) = Lt ++ [(1, 0, 100 + (i : Int))] ++ [(1, 0, (i : Int))] := by rw [HST.out]; simp [deepE, hik, hx, r3]
            have HF := Lib.hid hfin
            clear hfin
            go_wp2
            go_roundw
            case rel =>
              refine ⟨t + 1, c4, A4, h2, ?_, ?_, ?_, HX4.out⟩
              · rw [show (d : Int) - 1 - ((t + 1 : Nat) : Int) = (i : Int) - 1 by have := HI2.out; omega]
              · rw [HF.out]; simp
              · rw [HF.out, show (Lt ++ [(1, 0, 100 + (i : Int))] ++ [(1, 0, (i : Int))] : List MarkV).length = Lt.length + 1 + 1 by simp]
                exact HO4.out
            case measure => simp [intOf] <;> omega
          · subst hik
            have r1 : ¬ (i : Int) < (i : Int) := by omega
            have r2 : ((i : Int) == (i : Int)) = true := by simp
            have yb := K109.out.below HBE.out
            have v0 := yb.cell 0 _ rfl
            have v1 := yb.cell 1 _ rfl
            have vl := yb.lt
            clear yb
            have HSRC3 := Lib.hid (srcML wa (.int .u8 5) (.int .u8 (K : Int)) (.int .i64 m) rfl rfl rfl 36)
            have b1 := (Below.refl wa.heap.size wa).alloc (Nat.le_refl _) (.cells #[.int .u8 5, .int .u8 (K : Int), .int .i64 m] 36)
            have HB3 := Lib.hid b1
            have HP3 := Lib.hid (HO.out.below b1)
            have hnn3 : (Lt.length + 1) * 16 ≤ 140737488355328 := by omega
            have hbb3 : w9.heap.size ≤ (wa.alloc (.cells #[.int .u8 5, .int .u8 (K : Int), .int .i64 m] 36)).heap.size := by have := HBE.out.size; have := b1.size; omega
            clear b1
            go_wp2_with (refine wpList_append_s Tryd.underlying29 hiM hM0 hM1 hM2 rfl rfl (.tmp 139) (.tmp 145) rfl rfl HP3.out (some ⟨wa.heap.size, 0, none⟩) 1 1 _ rfl HSRC3.out (fun e => by cases e) (by omega) hnn3 hbb3 ?_)
            intro A3 c3 w3 ho3 hf3 hbk3
            have HO3 : Hid (OwnS w3 w9.heap.size 3 A3 (Lt.length + 1) c3 (FMk (Lt ++ [(5, K, m)]))) := Lib.hid (by rw [FMk_snocL]; exact ho3)
            have HX3 : Hid (Below w9.heap.size w9 w3) := Lib.hid ((HBE.out.trans (HB3.out.mono HBE.out.size)).trans (hf3.below hbb3 (fun x hx => (HO.out.lt x hx).1)))
            clear ho3 hf3 hbk3
            have HSRC4 := Lib.hid (srcML w3 (.int .u8 1) (.int .u8 0) (.int .i64 (i : Int)) rfl rfl rfl 36)
            have b1 := (Below.refl w3.heap.size w3).alloc (Nat.le_refl _) (.cells #[.int .u8 1, .int .u8 0, .int .i64 (i : Int)] 36)
            have HB4 := Lib.hid b1
            have HP4 := Lib.hid (HO3.out.below b1)
            have hnn4 : ((Lt.length + 1) + 1) * 16 ≤ 140737488355328 := by omega
            have hbb4 : w9.heap.size ≤ (w3.alloc (.cells #[.int .u8 1, .int .u8 0, .int .i64 (i : Int)] 36)).heap.size := by have := HX3.out.size; have := b1.size; omega
            clear b1
            go_wp2_with (refine wpList_append_s Tryd.underlying29 hiM hM0 hM1 hM2 rfl rfl (.tmp 147) (.tmp 150) rfl rfl HP4.out (some ⟨w3.heap.size, 0, none⟩) 1 1 _ rfl HSRC4.out (fun e => by cases e) (by omega) hnn4 hbb4 ?_)
            intro A4 c4 w4 ho4 hf4 hbk4
            have HO4 : Hid (OwnS w4 w9.heap.size 3 A4 ((Lt.length + 1) + 1) c4 (FMk ((Lt ++ [(5, K, m)]) ++ [(1, 0, (i : Int))]))) := Lib.hid (by rw [FMk_snocL]; exact ho4)
            have HX4 : Hid (Below w9.heap.size w9 w4) := Lib.hid ((HX3.out.trans (HB4.out.mono HX3.out.size)).trans (hf4.below hbb4 (fun x hx => (HO3.out.lt x hx).1)))
            clear ho4 hf4 hbk4
            have hfin : deepM d i (K, m) (t + 1) = Lt ++ [(5, K, m)] ++ [(1, 0, (i : Int))] := by rw [HST.out]; simp [deepE]
            have HF := Lib.hid hfin
            clear hfin
            go_wp2
            go_roundw
            case rel =>
              refine ⟨t + 1, c4, A4, h2, ?_, ?_, ?_, HX4.out⟩
              · rw [show (d : Int) - 1 - ((t + 1 : Nat) : Int) = (i : Int) - 1 by have := HI2.out; omega]
              · rw [HF.out]; simp
              · rw [HF.out, show (Lt ++ [(5, K, m)] ++ [(1, 0, (i : Int))] : List MarkV).length = Lt.length + 1 + 1 by simp]
                exact HO4.out
            case measure => simp [intOf] <;> omega
          · have r1 : ¬ (i : Int) < (kk : Int) := by omega
            have r2 : ((i : Int) == (kk : Int)) = false := beq_eq_false_iff_ne.2 (by omega)
            have r3 : ¬ i = kk := by omega
            have r4 : ¬ i < kk := by omega
            have HSRC3 := Lib.hid (srcML wa (.int .u8 1) (.int .u8 0) (.int .i64 (i : Int)) rfl rfl rfl 36)
            have b1 := (Below.refl wa.heap.size wa).alloc (Nat.le_refl _) (.cells #[.int .u8 1, .int .u8 0, .int .i64 (i : Int)] 36)
            have HB3 := Lib.hid b1
            have HP3 := Lib.hid (HO.out.below b1)
            have hnn3 : (Lt.length + 1) * 16 ≤ 140737488355328 := by omega
            have hbb3 : w9.heap.size ≤ (wa.alloc (.cells #[.int .u8 1, .int .u8 0, .int .i64 (i : Int)] 36)).heap.size := by have := HBE.out.size; have := b1.size; omega
            clear b1
            go_wp2_with (refine wpList_append_s Tryd.underlying29 hiM hM0 hM1 hM2 rfl rfl (.tmp 147) (.tmp 150) rfl rfl HP3.out (some ⟨wa.heap.size, 0, none⟩) 1 1 _ rfl HSRC3.out (fun e => by cases e) (by omega) hnn3 hbb3 ?_)
            intro A3 c3 w3 ho3 hf3 hbk3
            have HO3 : Hid (OwnS w3 w9.heap.size 3 A3 (Lt.length + 1) c3 (FMk (Lt ++ [(1, 0, (i : Int))]))) := Lib.hid (by rw [FMk_snocL]; exact ho3)
            have HX3 : Hid (Below w9.heap.size w9 w3) := Lib.hid ((HBE.out.trans (HB3.out.mono HBE.out.size)).trans (hf3.below hbb3 (fun x hx => (HO.out.lt x hx).1)))
            clear ho3 hf3 hbk3
            have hfin : deepM d kk (K, m) (t + 1) = Lt ++ [(1, 0, (i : Int))] := by rw [HST.out]; simp [deepE, r3, r4]
            have HF := Lib.hid hfin
            clear hfin
            go_wp2
            go_roundw
            case rel =>
              refine ⟨t + 1, c3, A3, h2, ?_, ?_, ?_, HX3.out⟩
              · rw [show (d : Int) - 1 - ((t + 1 : Nat) : Int) = (i : Int) - 1 by have := HI2.out; omega]
              · rw [HF.out]; simp
              · rw [HF.out, show (Lt ++ [(1, 0, (i : Int))] : List MarkV).length = Lt.length + 1 by simp]
                exact HO3.out
            case measure => simp [intOf] <;> omega
        · obtain rfl : d = t := by omega
          obtain rfl : Lt = MS := hLt.symm.trans HMS.out
          rw [HNL.out] at ho ⊢
          rw [show (d : Int) - 1 - (d : Int) = -1 by omega]
          have HO := Lib.hid ho
          have hne : ((NL : Int) != (NL : Int)) = false := by simp
          clear ho hbe hLt
          go_wp2
          go_loopw [159] (fun jv wr => ∃ j : Nat, j ≤ NL ∧ jv = .int .i64 (j : Int) ∧ Below wa.heap.size wa wr) (fun jv _ => NL - (intOf jv).toNat)
          case atStart => exact ⟨0, Nat.zero_le _, rfl, Below.refl _ _⟩
          case round =>
            obtain ⟨j, hj, rfl, hbx⟩ := hrel
            have HBX := Lib.hid hbx
            rcases Nat.lt_or_ge j NL with h3 | h3
            · have hjj : (j : Int) < (NL : Int) := by omega
              have hj1 : IntKind.i64.wrap ((j : Int) + 1) = (j : Int) + 1 := IntWalk.i64_in _ (by omega)
              have hjl : j < Lt.length := by rw [HNL.out]; exact h3
              obtain ⟨⟨mk, mc, mn⟩, hxj⟩ : ∃ x, Lt[j]? = some x := ⟨Lt[j], List.getElem?_eq_getElem hjl⟩
              obtain ⟨f0, f1, f2⟩ := FMk_at Lt j _ hxj
              obtain ⟨mb, mo, rfl, _, hbl, hcl, _⟩ := HO9.out.cell (by omega)
              obtain ⟨mb2, mo2, rfl, _, hbl2, hcl2, _⟩ := HO.out.cell (by omega)
              have hw9 := HBE.out.size
              have b9 := HBE.out.trans (hbx.mono hw9)
              have a0 : wr.cell? ⟨mb, mo + j * 3, none⟩ = some (.int .u8 (mk : Int)) := (b9.cell (p := ⟨mb, mo + j * 3, none⟩) hbl).trans (hcl _ _ f0)
              have a1 : wr.cell? ⟨mb, mo + j * 3 + 1, none⟩ = some (.int .u8 (mc : Int)) := (b9.cell (p := ⟨mb, mo + j * 3 + 1, none⟩) hbl).trans (hcl _ _ f1)
              have a2 : wr.cell? ⟨mb, mo + j * 3 + 2, none⟩ = some (.int .i64 mn) := (b9.cell (p := ⟨mb, mo + j * 3 + 2, none⟩) hbl).trans (hcl _ _ f2)
              have e0 : wr.cell? ⟨mb2, mo2 + j * 3, none⟩ = some (.int .u8 (mk : Int)) := (hbx.cell (p := ⟨mb2, mo2 + j * 3, none⟩) hbl2).trans (hcl2 _ _ f0)
              have e1 : wr.cell? ⟨mb2, mo2 + j * 3 + 1, none⟩ = some (.int .u8 (mc : Int)) := (hbx.cell (p := ⟨mb2, mo2 + j * 3 + 1, none⟩) hbl2).trans (hcl2 _ _ f1)
              have e2 : wr.cell? ⟨mb2, mo2 + j * 3 + 2, none⟩ = some (.int .i64 mn) := (hbx.cell (p := ⟨mb2, mo2 + j * 3 + 2, none⟩) hbl2).trans (hcl2 _ _ f2)
              have q9 := neqMark (mk : Int) (mc : Int) mn
              clear hbx hcl hcl2 f0 f1 f2 b9 hxj
              go_upto_region 33 with (fail)
              go_region
              go_wp2
              go_roundw
              case rel => exact ⟨j + 1, by omega, rfl, HBX.out.drew⟩
              case measure => simp [intOf]; omega
            · obtain rfl : NL = j := by omega
              have hjj : ¬ (NL : Int) < (NL : Int) := by omega
              go_wp2
              go_ret
              exact ⟨rfl, HB9.out.trans ((HBE.out.trans (HBX.out.mono HBE.out.size)).mono HB9.out.size)⟩
end Go.Proofs.YtoanpcnkaoigpaaDoor
