/- The law TokenEncodes: its walk. -/
import Derived.Test.YtlkkldegbopnpaaTokW
namespace Go.Proofs.Ytlkkldegbopnpaa
open Go.RowKit
set_option maxRecDepth 100000
set_option linter.unusedVariables false

theorem own_front {w : World} {B n d : Nat} {F : Option Addr} {zs ms : List Nat} (h : OwnB w B F (n + 3) d (zs ++ ms)) (hl : zs.length = n) : Arg w w.heap.size F n d zs := by
  have := h.arg.take (k := n) (by omega)
  rwa [List.take_left' hl] at this

set_option maxHeartbeats 1600000 in
theorem tokenEncodes_err (p : Int) (A : Option Addr) (n c : Nat) (zs : List Nat) (s : Int) (w : World) (er : Int) (h : Arg w w.heap.size A n c zs) (hsz : c ≤ 140737488351232) (her : (er != 0) = true)
    (HE : Hid (∀ w F d, Calls Try.prog 17 #[TokA p s F n d] w (ValEnd w (.tuple #[.slice none 0 0, .int .i64 er]))))
    (HD : Hid (∀ w, Calls Try.prog 18 #[TokA p s A n c] w (ValEnd w (.tuple #[.slice none 0 0, .int .i64 er])))) :
    Calls Try.prog 3 #[TokA p s A n c] w (ValEnd w (.bool true)) := by
  have her2 : (er != er) = false := by simp
  have hle := h.le
  have hl := h.len
  have HL := Lib.hid hl
  have b0 := (Below.refl w.heap.size w).alloc (Nat.le_refl _) (.cells (tokB p s A n c).toArray 24)
  have k0 := BlkL.new w (tokB p s A n c) 24
  have HA0 := Lib.hid (h.below b0)
  have B0 := Lib.hid b0
  have K0 := Lib.hid k0
  clear b0 k0 h hl
  go_enter Try.func3, Try.ntmps3
  go_wp2_with fail
  with_reducible refine (awake7_any _).mono ?_
  rintro e w1 ⟨rfl, hb⟩
  have k1 := K0.out.below hb
  have hb1 := B0.out.trans (hb.mono (by simp))
  have HA1 := Lib.hid (HA0.out.below (hb.mono (by simp)))
  have hs1 := hb1.size
  have HB1 := Lib.hid hb1
  have c0 := k1.cell 0 _ rfl
  have c1 := k1.cell 1 _ rfl
  have c2 := k1.cell 2 _ rfl
  have z1 := k1.lt
  have K1 := Lib.hid k1
  clear k1 hb hb1 HA0 B0 K0
  go_wp2_with fail
  with_reducible refine (spare_any _ A n c zs (HA1.out.more hs1) (by omega)).mono ?_
  rintro e w2 ⟨F, d, rfl, ho, hb⟩
  have k2 := K1.out.below hb
  have hb2 := HB1.out.trans (hb.mono hs1)
  have HA2 := Lib.hid (HA1.out.below (hb.mono hs1))
  have hs2 := hb2.size
  have HB2 := Lib.hid hb2
  have HO2 := Lib.hid ho
  have K2 := Lib.hid k2
  clear c0 c1 c2 z1
  have c0 := k2.cell 0 _ rfl
  have c1 := k2.cell 1 _ rfl
  have c2 := k2.cell 2 _ rfl
  have z2 := k2.lt
  clear k2 hb hb2 HA1 HB1 K1 ho
  go_wp2_with fail
  with_reducible refine (HE.out _ F d).mono ?_
  rintro e w3 ⟨rfl, hb⟩
  have k3 := K2.out.below hb
  have hb3 := HB2.out.trans (hb.mono hs2)
  have HA3 := Lib.hid (HA2.out.below (hb.mono hs2))
  have HO3 := Lib.hid (HO2.out.below hb)
  have hs3 := hb3.size
  have HB3 := Lib.hid hb3
  have K3 := Lib.hid k3
  clear c0 c1 c2 z2
  have c0 := k3.cell 0 _ rfl
  have c1 := k3.cell 1 _ rfl
  have c2 := k3.cell 2 _ rfl
  have z3 := k3.lt
  clear k3 hb hb3 HA2 HB2 K2 HO2
  go_wp2_with fail
  with_reducible refine (HD.out _).mono ?_
  rintro e w4 ⟨rfl, hb⟩
  have k4 := K3.out.below hb
  have hb4 := HB3.out.trans (hb.mono hs3)
  have HA4 := Lib.hid (HA3.out.below (hb.mono hs3))
  have HO4 := Lib.hid (HO3.out.below hb)
  have hs4 := hb4.size
  have HB4 := Lib.hid hb4
  have K4 := Lib.hid k4
  clear c0 c1 c2 z3 k4 hb hb4 HA3 HB3 K3 HO3
  go_wp2_with fail
  with_reducible refine (same_any _ 0 0 none none 0 0 0 0 [] [] true rfl (Arg.nil _ _) (Arg.nil _ _)).mono ?_
  rintro e w5 ⟨rfl, t, rfl⟩
  have k5 := K4.out.drewN t
  have c0 := k5.cell 0 _ rfl
  have c1 := k5.cell 1 _ rfl
  have c2 := k5.cell 2 _ rfl
  have z5 := k5.lt
  clear k5
  go_wp2_with fail
  with_reducible refine (kept_any _ _ _ F A n c d zs ((HO4.out.drewN t).arg) (HA4.out.drewN t)).mono ?_
  rintro e w6 ⟨rfl, t2, rfl⟩
  go_wp2
  go_ret
  exact ⟨rfl, below_drewN HB4.out _⟩
set_option maxHeartbeats 1600000 in
theorem tokenEncodes_good (p : Nat) (A : Option Addr) (n c : Nat) (zs : List Nat) (s : Nat) (w : World) (h : Arg w w.heap.size A n c zs) (hsz : c ≤ 140737488351232) (hp : p < 32) (hs1 : 1 ≤ s) (hs2 : s ≤ 4611686018427387903) (hn : n ≤ 255) :
    Calls Try.prog 3 #[TokA p s A n c] w (ValEnd w (.bool true)) := by
  have hle := h.le
  have hl := h.len
  have HL := Lib.hid hl
  have b0 := (Below.refl w.heap.size w).alloc (Nat.le_refl _) (.cells (tokB p s A n c).toArray 24)
  have k0 := BlkL.new w (tokB p s A n c) 24
  have HA0 := Lib.hid (h.below b0)
  have B0 := Lib.hid b0
  have K0 := Lib.hid k0
  clear b0 k0 h hl
  go_enter Try.func3, Try.ntmps3
  go_wp2_with fail
  with_reducible refine (awake7_any _).mono ?_
  rintro e w1 ⟨rfl, hb⟩
  have k1 := K0.out.below hb
  have hb1 := B0.out.trans (hb.mono (by simp))
  have HA1 := Lib.hid (HA0.out.below (hb.mono (by simp)))
  have hz1 := hb1.size
  have HB1 := Lib.hid hb1
  have c0 := k1.cell 0 _ rfl
  have c1 := k1.cell 1 _ rfl
  have c2 := k1.cell 2 _ rfl
  have z1 := k1.lt
  have K1 := Lib.hid k1
  clear k1 hb hb1 HA0 B0 K0
  go_wp2_with fail
  with_reducible refine (spare_any _ A n c zs (HA1.out.more hz1) (by omega)).mono ?_
  rintro e w2 ⟨F, d, rfl, ho, hb⟩
  have k2 := K1.out.below hb
  have hb2 := HB1.out.trans (hb.mono hz1)
  have HA2 := Lib.hid (HA1.out.below (hb.mono hz1))
  have hz2 := hb2.size
  have HB2 := Lib.hid hb2
  have HO2 := Lib.hid ho
  have K2 := Lib.hid k2
  clear c0 c1 c2 z1
  have c0 := k2.cell 0 _ rfl
  have c1 := k2.cell 1 _ rfl
  have c2 := k2.cell 2 _ rfl
  have z2 := k2.lt
  clear k2 hb hb2 HA1 HB1 K1 ho
  go_wp2_with fail
  with_reducible refine (encode_good _ _ p s F n d zs (own_front HO2.out HL.out) (Nat.le_refl _) hp hs1 hs2 hn).mono ?_
  rintro e w3 ⟨P, pc, rfl, hop, hb⟩
  have HP3 := Lib.hid hop
  clear hop
  have k3 := K2.out.below hb
  have hb3 := HB2.out.trans (hb.mono hz2)
  have HA3 := Lib.hid (HA2.out.below (hb.mono hz2))
  have HO3 := Lib.hid (HO2.out.below hb)
  have hz3 := hb3.size
  have HB3 := Lib.hid hb3
  have K3 := Lib.hid k3
  clear c0 c1 c2 z2
  have c0 := k3.cell 0 _ rfl
  have c1 := k3.cell 1 _ rfl
  have c2 := k3.cell 2 _ rfl
  have z3 := k3.lt
  clear k3 hb hb3 HA2 HB2 K2 HO2
  go_wp2_with fail
  with_reducible refine (docEncode_good _ _ p s A n c zs (HA3.out) hz3 hp hs1 hs2 hn).mono ?_
  rintro e w4 ⟨Q, qc, rfl, hoq, hb⟩
  have HP4 := Lib.hid (HP3.out.below hb)
  have HQ4 := Lib.hid hoq.arg
  clear hoq HP3
  have k4 := K3.out.below hb
  have hb4 := HB3.out.trans (hb.mono hz3)
  have HA4 := Lib.hid (HA3.out.below (hb.mono hz3))
  have HO4 := Lib.hid (HO3.out.below hb)
  have hz4 := hb4.size
  have HB4 := Lib.hid hb4
  have K4 := Lib.hid k4
  clear c0 c1 c2 z3 k4 hb hb4 HA3 HB3 K3 HO3
  go_wp2_with fail
  with_reducible refine (same_any _ _ _ P Q (n + 16) pc (n + 16) qc _ _ true (by simp) HP4.out.arg HQ4.out).mono ?_
  rintro e w5 ⟨rfl, t, rfl⟩
  have k5 := K4.out.drewN t
  have c0 := k5.cell 0 _ rfl
  have c1 := k5.cell 1 _ rfl
  have c2 := k5.cell 2 _ rfl
  have z5 := k5.lt
  clear k5
  go_wp2_with fail
  with_reducible refine (kept_any _ _ _ F A n c d zs ((HO4.out.drewN t).arg) (HA4.out.drewN t)).mono ?_
  rintro e w6 ⟨rfl, t2, rfl⟩
  clear c0 c1 c2 z5
  have HP6 := Lib.hid (HP4.out.drewN (t + t2))
  have HB6 := Lib.hid (below_drewN HB4.out (t + t2))
  have k6 := K4.out.drewN (t + t2)
  have HA6 := Lib.hid (HA4.out.drewN (t + t2))
  obtain ⟨wy, hwy⟩ : ∃ x, x = w4.drewN (t + t2) := ⟨_, rfl⟩
  rw [← hwy] at HP6 HB6 k6 HA6
  have K6 := Lib.hid k6
  have hz6 := HB6.out.size
  clear k6
  go_wp2_with fail
  rw [← hwy]
  clear hwy
  with_reducible refine (decode_enc wy _ P n (n + 16) pc p s zs HP6.out.arg (Nat.le_refl _) HL.out hp hs1 hs2).mono ?_
  rintro e w7 ⟨U, uc, rfl, hou, hb⟩
  have bt := (Below.refl w7.heap.size w7).alloc (Nat.le_refl _) (.cells (tokB p s U n uc).toArray 24)
  have k7 := K6.out.below hb
  have hb7 := HB6.out.trans (hb.mono hz6)
  have hz7 := hb7.size
  have HA7 := Lib.hid ((HA6.out.below (hb.mono hz6)).below (bt.mono hz7))
  have HU7 := Lib.hid (hou.below bt)
  have HB7 := Lib.hid (hb7.alloc hz7 (.cells (tokB p s U n uc).toArray 24))
  have c0 := k7.cell 0 _ rfl
  have c1 := k7.cell 1 _ rfl
  have c2 := k7.cell 2 _ rfl
  have z7 := k7.lt
  have HS7 := Lib.hid (same7_any _ _ _ U A n uc n c zs zs p p s s true (Lib.hid (by simp)) HU7.out.arg HA7.out (Nat.le_refl _) HB7.out.size)
  clear k7 hb hb7 hou bt
  go_wp2_with fail
  with_reducible refine HS7.out.mono ?_
  rintro e w8 ⟨rfl, hb8⟩
  have HB8 := Lib.hid (HB7.out.trans (hb8.mono HB7.out.size))
  clear hb8
  go_wp2
  go_ret
  exact ⟨rfl, HB8.out⟩

theorem tokenEncodes_walk (p : Int) (A : Option Addr) (n c : Nat) (zs : List Nat) (s : Int) (w : World) (h : Arg w w.heap.size A n c zs) (hsz : c ≤ 140737488351232) :
    Calls Try.prog 3 #[TokA p s A n c] w (ValEnd w (.bool true)) := by
  by_cases h1 : ((decide (0 ≤ p) && decide (p < 32)) && (decide (1 ≤ s) && decide (s ≤ 4611686018427387903))) = true
  · have h1' := h1
    simp only [Bool.and_eq_true, decide_eq_true_eq] at h1'
    obtain ⟨⟨g1, g2⟩, g3, g4⟩ := h1'
    obtain ⟨p, rfl⟩ := Int.eq_ofNat_of_zero_le g1
    obtain ⟨s, rfl⟩ := Int.eq_ofNat_of_zero_le (show 0 ≤ s by omega)
    rcases Nat.lt_or_ge 255 n with h2 | h2
    · exact tokenEncodes_err _ A n c zs _ w 2 h hsz rfl (Lib.hid fun w F d => encode_long w _ _ F n d (Lib.hid (by simp; omega)) (Lib.hid (by simp; omega)) h2) (Lib.hid fun w => docEncode_long w p s A n c (by omega) (by omega) (by omega) h2)
    · exact tokenEncodes_good p A n c zs s w h hsz (by omega) (by omega) (by omega) h2
  · have h1 := Bool.eq_false_iff.2 h1
    exact tokenEncodes_err p A n c zs s w 1 h hsz rfl (Lib.hid fun w F d => encode_bad w p s F n d (Lib.hid h1)) (Lib.hid fun w => docEncode_bad w p s A n c (Lib.hid h1))
end Go.Proofs.Ytlkkldegbopnpaa
