/- CauseReverse: its walk, calm. -/
import Derived.Test.YtoanpcnkaoigpaaDoorRvC
import Derived.BigQuiet
namespace Go.Proofs.YtoanpcnkaoigpaaDoor
open Go.RowKit
set_option maxRecDepth 100000
set_option linter.unusedVariables false
set_option linter.unusedSimpArgs false
set_option maxHeartbeats 4000000

theorem causeReverse_t {w0 : World} (cnt cl : Nat) (n : Int) (w : World) (h0 : Lib0 w0) (hb : Below w0.heap.size w0 w) (hcnt : cnt < 256) (hcl : cl < 256) (hn1 : -9223372036854775808 ≤ n) (hn2 : n ≤ 9223372036854775807) :
    Calls Tryd.prog 7 #[.int .u8 (cnt : Int), .int .u8 (cl : Int), .int .i64 n, .bool true] w fun e w' => e = .returned (.bool true) ∧ Below w.heap.size w w' := by
  obtain ⟨iA, hiA, hA0, hA1, hA2⟩ := info_partsAct
  have HA := Lib.hid (awake9_any h0 hb)
  have H0 := Lib.hid h0
  have HB := Lib.hid hb
  obtain ⟨K, hK⟩ : ∃ K, 11 + cl % 14 = K := ⟨_, rfl⟩
  obtain ⟨m, hm⟩ : ∃ m, (endV K n).2 = m := ⟨_, rfl⟩
  have hK1 : 11 ≤ K ∧ K ≤ 24 := by omega
  have HRA : Hid (∀ W, Calls Tryd.prog 12 #[.int .u8 (cl : Int), .int .i64 n] W fun e w' => e = .returned (.tuple #[.agg #[.int .u8 (K : Int), .int .i64 n], .agg #[.int .u8 (K : Int), .int .i64 m]]) ∧ Below W.heap.size W w') := Lib.hid (fun W => raises_any W cl K n m hcl hK.symm hm.symm)
  obtain ⟨k, hk⟩ : ∃ k, cnt % 20 = k := ⟨_, rfl⟩
  have hk20 : k < 20 := by omega
  have t1 : Int.tmod (cnt : Int) 20 = (k : Int) := by rw [Int.tmod_eq_emod_of_nonneg (by omega)]; omega
  have t2 : IntKind.i64.wrap (cnt : Int) = (cnt : Int) := IntWalk.i64_in _ (by omega)
  have t3 : IntKind.i64.wrap (k : Int) = (k : Int) := IntWalk.i64_in _ (by omega)
  have t4 : IntKind.i64.wrap ((k : Int) + 1) = (k : Int) + 1 := IntWalk.i64_in _ (by omega)
  have HEK := Lib.hid (show endV K n = (K, m) by rw [← hm]; rfl)
  have HR := Lib.hid (And.intro hK1 (And.intro hn1 hn2))
  clear h0 hb hK hm hcl hk hcnt
  go_enter Tryd.func7, Tryd.ntmps7
  go_wp2_with fail
  with_reducible refine HA.out.mono ?_
  rintro e w1 ⟨rfl, hb1⟩
  have HB1 := Lib.hid hb1
  clear hb1
  go_wp2_with fail
  with_reducible refine (HRA.out w1).mono ?_
  rintro e w2 ⟨rfl, hb2⟩
  have B2 : Below w.heap.size w w2 := HB1.out.trans (hb2.mono HB1.out.size)
  have l2 := B2.size
  have g5 := (BlkL.new w2 [.int .u8 (K : Int), .int .i64 n] 24).alloc (.cells #[.int .u8 (K : Int), .int .i64 m] 26)
  have g6 := BlkL.new (w2.alloc (.cells #[.int .u8 (K : Int), .int .i64 n] 24)) [.int .u8 (K : Int), .int .i64 m] 26
  rw [show (w2.alloc (.cells #[.int .u8 (K : Int), .int .i64 n] 24)).heap.size = w2.heap.size + 1 by simp] at g6
  have B2b : Below w.heap.size w ((w2.alloc (.cells #[.int .u8 (K : Int), .int .i64 n] 24)).alloc (.cells #[.int .u8 (K : Int), .int .i64 m] 26)) := (B2.alloc l2 _).alloc (by simp <;> omega) _
  go_upto_region 5 with (fail)
  revert l2 g5 g6 B2b
  generalize ((w2.alloc (.cells #[.int .u8 (K : Int), .int .i64 n] 24)).alloc (.cells #[.int .u8 (K : Int), .int .i64 m] 26)) = w2b
  generalize w2.heap.size = p9
  intro l2 g5 g6 B2b
  have k5 := ((((g5.set 0 (.int .u8 1) (by simp)).set 1 (.int .i64 (-5)) (by simp)).other (p9 + 1) 0 (.int .u8 0) (by omega)).other (p9 + 1) 1 (.int .i64 0) (by omega))
  have k6 := ((((g6.other p9 0 (.int .u8 1) (by omega)).other p9 1 (.int .i64 (-5)) (by omega)).set 0 (.int .u8 0) (by simp)).set 1 (.int .i64 0) (by simp))
  simp only [List.set_cons_zero, List.set_cons_succ] at k5 k6
  have B3 : Below w.heap.size w ((((w2b.setCell ⟨p9, 0, none⟩ (.int .u8 1)).setCell ⟨p9, 1, none⟩ (.int .i64 (-5))).setCell ⟨p9 + 1, 0, none⟩ (.int .u8 0)).setCell ⟨p9 + 1, 1, none⟩ (.int .i64 0)) := below_put2 (below_put2 B2b l2 _ _) (by omega) _ _
  have x0 := g5.cell 0 _ rfl
  have x1 := g5.cell 1 _ rfl
  have xf0 := g5.froz 0 (by simp)
  have xf1 := g5.froz 1 (by simp)
  have xl := g5.lt
  have y0 := g6.cell 0 _ rfl
  have y1 := g6.cell 1 _ rfl
  have yf0 := g6.froz 0 (by simp)
  have yf1 := g6.froz 1 (by simp)
  have yl := g6.lt
  clear g5 g6 B2b
  go_upto_region 7 with (fail)
  revert B3 k5 k6
  generalize ((((w2b.setCell ⟨p9, 0, none⟩ (.int .u8 1)).setCell ⟨p9, 1, none⟩ (.int .i64 (-5))).setCell ⟨p9 + 1, 0, none⟩ (.int .u8 0)).setCell ⟨p9 + 1, 1, none⟩ (.int .i64 0)) = w3
  clear x0 x1 xf0 xf1 xl y0 y1 yf0 yf1 yl
  intro k5 k6 B3
  have HB3 := Lib.hid B3
  have K9 := Lib.hid k5
  have K10 := Lib.hid k6
  have l3 := B3.size
  clear B2 l2 hb2 k5 k6
  go_wp2_with fail
  have hmk := mkP w3 (k + 1) (by omega)
  rw [show ((k + 1 : Nat) : Int) = (k : Int) + 1 from rfl] at hmk
  rw [hmk]
  clear hmk
  simp only [Result.andThen]
  rw [Oper.upon_value]
  have k12 := BlkL.new w3 (List.replicate (k + 1) (.slice none 0 0)) 33
  have B4 := B3.alloc l3 (.cells (List.replicate (k + 1) (.slice none 0 0)).toArray 33)
  have k9 := K9.out.alloc (.cells (List.replicate (k + 1) (.slice none 0 0)).toArray 33)
  have k10 := K10.out.alloc (.cells (List.replicate (k + 1) (.slice none 0 0)).toArray 33)
  have h9 : p9 < w3.heap.size := K9.out.lt
  have h10 : p9 + 1 < w3.heap.size := K10.out.lt
  revert k12 B4 k9 k10 h9 h10 l3
  generalize w3.alloc (.cells (List.replicate (k + 1) (.slice none 0 0)).toArray 33) = w4
  generalize w3.heap.size = ob
  intro l3 k12 B4 k9 k10 h9 h10
  have HB4 := Lib.hid B4
  have K94 := Lib.hid k9
  have K104 := Lib.hid k10
  have hob := k12.lt
  have HI := Lib.hid (RvI.start (fun _ => 0) k12)
  clear B3 B4 k9 k10 k12
  go_wp2_with fail
  go_loopw [13] (fun iv wr => ∃ (u c : Nat) (A : Option Addr) (b : Nat → Nat), u ≤ k ∧ iv = .int .i64 ((u : Int) + 1) ∧ RvI w4 wr ob k u A c b) (fun iv _ => k + 1 - (intOf iv).toNat)
  case atStart => exact ⟨0, 0, none, _, Nat.zero_le _, rfl, HI.out⟩
  case round =>
    obtain ⟨u, c, A, b, hu, rfl, hI⟩ := hrel
    have HI := Lib.hid hI
    have hws : ob < wr.heap.size := Nat.lt_of_lt_of_le hob hI.off.size
    have o0 := hI.out.cell 0 _ rfl
    clear hI
    rcases Nat.lt_or_ge u k with h1 | h1
    · have hii : ((u : Int) + 1) ≤ (k : Int) := by omega
      have hi1 : IntKind.i64.wrap ((u : Int) + 1 + 1) = (u : Int) + 1 + 1 := IntWalk.i64_in _ (by omega)
      have HSRC := Lib.hid (srcOne wr (.int .u8 3) (.int .i64 ((u : Int) + 1)) rfl rfl 24)
      have b1 := (Below.refl wr.heap.size wr).alloc (Nat.le_refl _) (.cells #[.int .u8 3, .int .i64 ((u : Int) + 1)] 24)
      have HB1' := Lib.hid b1
      have HO1 := Lib.hid (HI.out.own.below b1)
      have hnn : (u + 1) * 16 ≤ 140737488355328 := by omega
      have hbb : w4.heap.size ≤ (wr.alloc (.cells #[.int .u8 3, .int .i64 ((u : Int) + 1)] 24)).heap.size := by have := HI.out.off.size; have := b1.size; omega
      have hoA : ob ∉ bkV A := fun q => by have := (HI.out.own.lt ob q).1; omega
      have HOA := Lib.hid hoA
      have HOU := Lib.hid (HI.out.out.below b1)
      clear b1 hoA
      go_wp2_with (refine wpList_append_s Tryd.underlying33 hiA hA0 hA1 hA2 rfl rfl (.tmp 44) (.tmp 47) rfl rfl HO1.out (some ⟨wr.heap.size, 0, none⟩) 1 1 _ rfl HSRC.out (fun e => by cases e) (by omega) hnn hbb ?_)
      intro A3 c3 w5 ho5 hf5 hbk5
      have HST : Hid (RvI w4 (((w5.setCell ⟨ob, 0, none⟩ (.slice A3 (u + 1) c3)).setCell ⟨ob, u + 1, none⟩ (.slice (some ⟨w5.heap.size, 0, none⟩) 1 1)).alloc (.cells #[.int .u8 1, .int .i64 ((u : Int) + 1)] 24)) ob k (u + 1) A3 c3 (fun j => if j = u then w5.heap.size else b j)) := Lib.hid (HI.out.step (t := 24) hob h1 HB1'.out ho5 hf5 (fun y hy => (hbk5 y hy).imp id (fun q => ⟨by have := q.1; simp; omega, q.2⟩)))
      have k5 := HOU.out.off hf5 HOA.out
      have d0 := k5.cell 0 _ rfl
      have dz0 := k5.froz 0 (by simp)
      have dl := k5.lt
      have du := k5.cell (u + 1) (.slice none 0 0) (by simp [h1])
      have dzu := k5.froz (u + 1) (by simp; omega)
      have hou : ¬ ob = w5.heap.size := by omega
      clear ho5 hf5 hbk5
      have k6 := ((k5.set 0 (.slice A3 (u + 1) c3) (by simp)).alloc (.cells #[.int .u8 1, .int .i64 ((u : Int) + 1)] 24))
      go_wp2
      go_roundw
      case rel => exact ⟨u + 1, c3, A3, _, h1, rfl, HST.out⟩
      case measure => simp [intOf]; omega
    · obtain rfl : k = u := by omega
      have hii : ¬ ((k : Int) + 1) ≤ (k : Int) := by omega
      have HSRC := Lib.hid (srcOneD wr (.int .u8 1) (.int .i64 (-5)) rfl rfl 24)
      have b1 := ((Below.refl wr.heap.size wr).alloc (Nat.le_refl _) (.cells #[.int .u8 1, .int .i64 (-5)] 24)).drew
      have HB1' := Lib.hid b1
      have HO1 := Lib.hid (HI.out.own.below b1)
      have hnn : (k + 1) * 16 ≤ 140737488355328 := by omega
      have hbb : w4.heap.size ≤ ((wr.alloc (.cells #[.int .u8 1, .int .i64 (-5)] 24)).drew).heap.size := by have := HI.out.off.size; have := b1.size; omega
      have hoA : ob ∉ bkV A := fun q => by have := (HI.out.own.lt ob q).1; omega
      have HOA := Lib.hid hoA
      have HOU := Lib.hid (HI.out.out.below b1)
      have k9 := K94.out.off HI.out.off (by simp; omega)
      have k10 := K104.out.off HI.out.off (by simp; omega)
      have K9r := Lib.hid k9
      have K10r := Lib.hid k10
      have z0 := k9.cell 0 _ rfl
      have z1 := k9.cell 1 _ rfl
      have zl := k9.lt
      clear b1 hoA k9 k10
      go_wp2_with fail
      go_region_law (refine step_append_s Tryd.underlying33 hiA hA0 hA1 hA2 rfl rfl (.tmp 59) (.tmp 61) rfl rfl HO1.out (some ⟨wr.heap.size, 0, none⟩) 1 1 _ rfl HSRC.out (fun e => by cases e) (by omega) hnn hbb ?_; intro A6 c6 w6 ho6 hf6 hbk6; have k5 := HOU.out.off hf6 HOA.out; have d0 := k5.cell 0 _ rfl; have dz0 := k5.froz 0 (by simp); have dl := k5.lt)
      all_goals
        have HD := Lib.hid (HI.out.done (a := (1, (-5))) hob HB1'.out ho6 hf6)
        have hw7 : (w6.setCell ⟨ob, 0, none⟩ (.slice A6 (k + 1) c6)).heap.size = w6.heap.size := by simp
        have HB7 : Hid (Below w.heap.size w (w6.setCell ⟨ob, 0, none⟩ (.slice A6 (k + 1) c6))) := Lib.hid (HB4.out.trans (HD.out.2.below (by have := HB4.out.size; omega) (by simp; omega)))
        have n9 := K94.out.off HD.out.2 (by simp; omega)
        have n10 := K104.out.off HD.out.2 (by simp; omega)
        have K97 := Lib.hid n9
        have K107 := Lib.hid n10
        clear k5 d0 dz0 dl ho6 hf6 hbk6 n9 n10 z0 z1 zl o0
        go_wp2_with fail
        generalize hW7 : w6.setCell ⟨ob, 0, none⟩ (.slice A6 (k + 1) c6) = w7 at *
        have hr := run_rev H0.out (HB.out.trans (HB7.out.mono HB.out.size)) hk20 HD.out.1 ⟨by decide, Or.inl rfl⟩ (by decide) (by decide) none [(1, 0, -5)] acts_calm 0 0 rfl rfl
        simp only [List.length_cons, List.length_nil, Nat.zero_add] at hr
        rw [Nat.add_comm 1 k] at hr
        have HRUN := Lib.hid hr
        clear hr
        with_reducible refine HRUN.out.mono ?_
        intro e w8 hE
        obtain ⟨A8, c8, rfl, ho8, hb8⟩ := hE
        have B8 : Below w.heap.size w w8 := HB7.out.trans (hb8.mono HB7.out.size)
        have k10 := K107.out.below hb8
        have k15 := BlkL.new w8 [.int .u8 0, .int .i64 0] 26
        have n10 := k10.alloc (.cells #[.int .u8 0, .int .i64 0] 26)
        have B9 := B8.alloc B8.size (.cells #[.int .u8 0, .int .i64 0] 26)
        have o9 := ho8.below ((Below.refl w8.heap.size w8).alloc (Nat.le_refl _) (.cells #[.int .u8 0, .int .i64 0] 26))
        clear ho8 hb8 B8 k10
        go_upto_region 15 with (fail)
        revert k15 n10 B9 o9
        generalize w8.alloc (.cells #[.int .u8 0, .int .i64 0] 26) = w9
        generalize w8.heap.size = p15
        intro k15 n10 B9 o9
        have HB9 := Lib.hid B9
        have HO9 := Lib.hid o9
        have z0 := k15.cell 0 _ rfl
        have z1 := k15.cell 1 _ rfl
        have zl := k15.lt
        have y0 := n10.cell 0 _ rfl
        have y1 := n10.cell 1 _ rfl
        have yl := n10.lt
        have hne : ((k : Int) != (k : Int)) = false := by simp
        have hgt : (0 : Int) < (k : Int) + 1 := by omega
        obtain ⟨mb, mo, rfl, _, hbl, hcl, _⟩ := o9.cell (by omega)
        obtain ⟨c9, rfl⟩ : ∃ c9, c8 = c9 + 1 := ⟨c8 - 1, by have := o9.le; omega⟩
        have c0 : w9.cell? ⟨mb, mo, none⟩ = some (.int .u8 1) := hcl 0 _ rfl
        have c1 : w9.cell? ⟨mb, mo + 1, none⟩ = some (.int .u8 0) := hcl 1 _ rfl
        have c2 : w9.cell? ⟨mb, mo + 2, none⟩ = some (.int .i64 (-5)) := hcl 2 _ rfl
        have q3 := eqMark 1 0 (-5)
        have HT9 : Hid (OwnS w9 w7.heap.size 3 (some ⟨mb, mo + 3, none⟩) k c9 (FMk ((List.range' 1 k).reverse.map noteM))) := Lib.hid o9.tail
        clear hcl
        have q1 := neqEnd 0 0
        clear k15 n10 B9 o9
        have hkc : k ≤ c9 := by have := HO9.out.le; omega
        rcases Nat.eq_zero_or_pos c9 with h9 | h9
        · skip
          go_wp2
          go_loopw [101] (fun iv wr => ∃ i : Nat, i ≤ k ∧ iv = .int .i64 (i : Int) ∧ Below w9.heap.size w9 wr) (fun iv _ => k - (intOf iv).toNat)
          case atStart => exact ⟨0, Nat.zero_le _, rfl, Below.refl _ _⟩
          case round =>
            obtain ⟨i, hi, rfl, hbe⟩ := hrel
            have HBE := Lib.hid hbe
            rcases Nat.lt_or_ge i k with h2 | h2
            · exact absurd h2 (by omega)
            · obtain rfl : k = i := by omega
              have hii2 : ¬ (k : Int) < (k : Int) := by omega
              go_wp2
              go_ret
              exact ⟨rfl, HB9.out.trans (HBE.out.mono HB9.out.size)⟩
        · have h9' : ¬ c9 = 0 := by omega
          go_wp2
          go_loopw [101] (fun iv wr => ∃ i : Nat, i ≤ k ∧ iv = .int .i64 (i : Int) ∧ Below w9.heap.size w9 wr) (fun iv _ => k - (intOf iv).toNat)
          case atStart => exact ⟨0, Nat.zero_le _, rfl, Below.refl _ _⟩
          case round =>
            obtain ⟨i, hi, rfl, hbe⟩ := hrel
            have HBE := Lib.hid hbe
            rcases Nat.lt_or_ge i k with h2 | h2
            · have hii2 : (i : Int) < (k : Int) := by omega
              have hi2 : IntKind.i64.wrap ((i : Int) + 1) = (i : Int) + 1 := IntWalk.i64_in _ (by omega)
              obtain ⟨mb2, mo2, hme, _, hbl, hcl, _⟩ := HT9.out.cell (by omega)
              simp only [Option.some.injEq, Addr.mk.injEq, and_true] at hme
              obtain ⟨rfl, rfl⟩ := hme
              obtain ⟨f0, f1, f2⟩ := FMk_at _ i _ (notes_at h2)
              obtain ⟨z, hz⟩ : ∃ z : Int, ((k - i : Nat) : Int) = z := ⟨_, rfl⟩
              have hsub : IntKind.i64.wrap ((k : Int) - (i : Int)) = z := by rw [IntWalk.i64_in _ (by omega)]; omega
              dsimp only at f0 f1 f2
              rw [hz] at f2
              have a0 : wr.cell? ⟨mb, mo + 3 + i * 3, none⟩ = some (.int .u8 1) := (hbe.cell (p := ⟨mb, mo + 3 + i * 3, none⟩) hbl).trans (hcl _ _ f0)
              have a1 : wr.cell? ⟨mb, mo + 3 + i * 3 + 1, none⟩ = some (.int .u8 0) := (hbe.cell (p := ⟨mb, mo + 3 + i * 3 + 1, none⟩) hbl).trans (hcl _ _ f1)
              have a2 : wr.cell? ⟨mb, mo + 3 + i * 3 + 2, none⟩ = some (.int .i64 z) := (hbe.cell (p := ⟨mb, mo + 3 + i * 3 + 2, none⟩) hbl).trans (hcl _ _ f2)
              have q2 := neqMark 1 0 z
              clear hbe hcl f0 f1 f2 hz
              go_wp2
              go_roundw
              case rel => exact ⟨i + 1, by omega, rfl, HBE.out.alloc HBE.out.size _⟩
              case measure => simp [intOf]; omega
            · obtain rfl : k = i := by omega
              have hii2 : ¬ (k : Int) < (k : Int) := by omega
              go_wp2
              go_ret
              exact ⟨rfl, HB9.out.trans (HBE.out.mono HB9.out.size)⟩
end Go.Proofs.YtoanpcnkaoigpaaDoor
