/- The law FrameCuts: its walk. -/
import Derived.Test.YtlkkldegbopnpaaFrCM
namespace Go.Proofs.Ytlkkldegbopnpaa
open Go.RowKit
set_option maxRecDepth 100000
set_option linter.unusedVariables false
set_option maxHeartbeats 6400000 in
theorem frameCuts_walk (A : Option Addr) (N c : Nat) (zs : List Nat) (S : Option Addr) (m d : Nat) (ys : List Nat) (w : World) (hz : Arg w w.heap.size A N c zs) (hcc : c ≤ 1048576) (hy : Arg w w.heap.size S m d ys) (hdd : d ≤ 1048576) :
    Calls Try.prog 9 #[.slice A N c, .slice S m d] w fun e w' => e = .returned (.bool true) ∧ Below w.heap.size w w' := by
  obtain ⟨j0, hj, hjz, hj1, hj2⟩ := info_parts pay_info
  have hN : N ≤ 1048576 := Nat.le_trans hz.le hcc
  have hm : m ≤ 1048576 := Nat.le_trans hy.le hdd
  have HC : Hid (N ≤ c) := Lib.hid hz.le
  have HZL := Lib.hid hz.len
  have HZ := Lib.hid hz
  have HY := Lib.hid hy
  have hcnt := Fr.fr_count zs
  rw [hz.len] at hcnt
  have HFK : Hid ((Fr.frV zs).1.length * 24 ≤ 140737488355328) := Lib.hid (by omega)
  have HFK2 : Hid ((Fr.frV zs).1.length ≤ 140737488355328) := Lib.hid (by omega)
  clear hz hcc hy hdd hcnt
  go_enter Try.func9, Try.ntmps9
  go_wp2_with (with_reducible refine (awake20_any w).mono ?_)
  rintro e w1 ⟨rfl, hb1⟩
  have HB1 := Lib.hid hb1
  clear hb1
  go_wp2_with (with_reducible refine (fnew_any w1).mono ?_)
  rintro e w2 ⟨rfl, rfl⟩
  go_wp2_with (with_reducible refine (fnew_any _).mono ?_)
  rintro e w3 ⟨rfl, rfl⟩
  have bel : Below w1.heap.size w1 ((w1.alloc (.cells #[.slice none 0 0, .bool false] 113)).alloc (.cells #[.slice none 0 0, .bool false] 113)) := ((Below.refl _ _).alloc (Nat.le_refl _) _).alloc (by simp) _
  have R1 := Lib.hid ((rdm_new w1).below ((Below.refl _ (w1.alloc (.cells #[.slice none 0 0, .bool false] 113))).alloc (Nat.le_refl _) (.cells #[.slice none 0 0, .bool false] 113)))
  have R2 := Lib.hid (rdm_new (w1.alloc (.cells #[.slice none 0 0, .bool false] 113)))
  have B3 := Lib.hid (HB1.out.trans (bel.mono HB1.out.size))
  have Z1 : Hid (w.heap.size ≤ w1.heap.size) := Lib.hid HB1.out.size
  have Z3 : Hid (((w1.alloc (.cells #[.slice none 0 0, .bool false] 113)).alloc (.cells #[.slice none 0 0, .bool false] 113)).heap.size = w1.heap.size + 2) := Lib.hid (by simp)
  rw [World.size_alloc] at R2
  simp only [World.size_alloc]
  clear bel HB1
  generalize w1.heap.size = rb at *
  generalize (w1.alloc (.cells #[.slice none 0 0, .bool false] 113)).alloc (.cells #[.slice none 0 0, .bool false] 113) = w3 at *
  -- the one piece
  have HO0 : Hid (OwnB (w3.alloc (.cells #[] 5)) w3.heap.size (some ⟨w3.heap.size, 0, none⟩) 0 0 []) := Lib.hid (OwnB.lit w3 [] (by simp) rfl (by unfold maxLen; omega))
  have HA1 := Lib.hid ((HZ.out.below B3.out).below ((Below.refl _ w3).alloc (by have := Z1.out; have := Z3.out; omega) (.cells #[] 5)))
  go_wp2_with (refine wpList_append_bytes rfl (.tmp 22) (.tmp 23) rfl w3.heap.size (some ⟨w3.heap.size, 0, none⟩) 0 0 [] rfl HO0.out w.heap.size A N c _ rfl HA1.out (by omega) (by simp) ?_)
  intro X xc w4 hx hb4
  have hb4' : Below w3.heap.size w3 w4 := ((Below.refl _ w3).alloc (Nat.le_refl _) (.cells #[] 5)).trans hb4
  have hx4 : OwnB w4 w3.heap.size X N xc zs := by simpa using hx
  have h34 := hb4'.size
  have HF := Lib.hid (feed_v w4 w4.heap.size rb none 0 0 [] X N xc zs (Fr.frV zs) (by rw [List.nil_append]) ⟨(R1.out.below hb4').blk, OwnV.nil _ _, by simp, by simp [bkV]⟩ hx4.arg (Nat.le_refl _) (by omega) HFK.out)
  have R2' := Lib.hid (R2.out.below hb4')
  have B4 := Lib.hid (B3.out.trans (hb4'.mono (by have := Z1.out; have := Z3.out; omega)))
  have Z4 : Hid (rb + 2 ≤ w4.heap.size) := Lib.hid (by have := Z3.out; omega)
  clear hx hb4 hb4' hx4 HO0 HA1 R1 R2 B3 Z3 h34
  go_wp2_with (with_reducible refine (HF.out).mono ?_)
  rintro e w5 ⟨PA, pk, pkc, rs1, A1, n1, c1v, rfl, g2, g3, g4, g5, g6, g7⟩
  have hs45 := g5.size
  have G2 := Lib.hid g2
  have G3 := Lib.hid g3
  have G4 := Lib.hid g4
  have G7 := Lib.hid (And.intro g6 g7)
  have B5 : Hid (Below w.heap.size w w5) := Lib.hid (B4.out.trans (g5.below (by have := Z1.out; have := Z4.out; omega) (by intro y hy; simp [bkV] at hy; have := Z1.out; omega)))
  have R5 : Hid (RdM w5 w5.heap.size (rb + 1) none 0 0 [] false) := Lib.hid ⟨R2'.out.blk.off g5 (by simp [bkV]), OwnV.nil _ _, by simp, by simp [bkV]⟩
  have Z5 : Hid (rb + 2 ≤ w4.heap.size ∧ w4.heap.size ≤ w5.heap.size ∧ w.heap.size ≤ rb) := Lib.hid ⟨Z4.out, hs45, Z1.out⟩
  clear g2 g3 g4 g5 g6 g7 hs45 HF R2' B4 Z4 Z1
  go_wp2_with fail
  go_loopw [9, 10, 11, 12] (fun bv fv av iv wr => ∃ i at_ : Nat, iv = .int .i64 (i : Int) ∧ av = .int .i64 (at_ : Int) ∧ i ≤ 301 ∧ at_ ≤ N ∧ (i = 301 → at_ = N) ∧ CuI w w5 (rb + 1) zs at_ bv fv wr) (fun _ _ _ iv _ => 302 - (intOf iv).toNat)
  case atStart =>
    refine ⟨0, 0, rfl, rfl, by omega, by omega, by omega, none, 0, 0, [], none, 0, 0, rfl, ?_, ?_, PayL.nil _ _, ?_, by simp [bkV], Off.refl _ _, B5.out⟩
    · rw [List.take_zero, Fr.fr_nil]; rfl
    · rw [List.take_zero, Fr.fr_nil]; rfl
    · rw [List.take_zero, Fr.fr_nil]; exact R5.out
  case round =>
    obtain ⟨i, at_, rfl, rfl, hi, ha, hil, hI⟩ := hrel
    rcases Nat.lt_or_ge at_ N with hlt | hge
    · obtain ⟨n0, hn0⟩ : ∃ n0, N = at_ + n0 := ⟨N - at_, by omega⟩
      have hn1 : 1 ≤ n0 := by omega
      have hi3 : i ≤ 300 := by omega
      have s1 : (N : Int) - (at_ : Int) = (n0 : Int) := by omega
      have c1 : decide ((at_ : Int) < (N : Int)) = true := by simp; omega
      have c1' : decide (at_ < N) = true := by simp; omega
      obtain ⟨BA, bk, bc, rs, A2, n2, c2, rfl, rfl, hp, hpay, hrd, hdis, hoff, hbel⟩ := hI
      obtain ⟨F, hF⟩ : ∃ F, Fr.frV (zs.take at_) = F := ⟨_, rfl⟩
      rw [hF] at hp hrd ⊢
      have HF0 := Lib.hid hF
      have HP0 := Lib.hid hp
      have HPAY := Lib.hid hpay
      have HRD := Lib.hid hrd
      have HDIS := Lib.hid hdis
      have HOFF := Lib.hid hoff
      have HBEL := Lib.hid hbel
      have HN0 := Lib.hid hn0
      clear hp hpay hrd hdis hoff hbel hF hn0 hil
      rcases Nat.lt_or_ge i m with him | him
      · rcases Nat.lt_or_ge i 300 with hi4 | hi4
        · have e1 : decide (i < m) = true := by simp; omega
          have e2 : decide ((i : Int) < 300) = true := by simp; omega
          have hyr := HY.out.below HBEL.out
          obtain ⟨b, off, rfl, _, hc⟩ := hyr.at_ (by omega)
          have y0 := hc i him
          have hyl := hyr.lt i
          generalize ys.getD i 0 = q at y0 hyl
          have i0 : (0 : Int) ≤ (i : Int) := by omega
          have i1 : (i : Int) < (m : Int) := by omega
          clear hc hyr
          rcases (by omega : n0 < q ∨ n0 = q ∨ q < n0) with hq | hq | hq
          · have mn : ¬ q < n0 := by omega
            have hnn : n0 ≤ n0 := by omega
            have hlast : i + 1 = 301 → at_ + n0 = N := by have := HN0.out; omega
            have haN : at_ + n0 ≤ N := by have := HN0.out; omega
            have hsl := fun wz => run_midB wz A N c at_ n0 (by have := HC.out; omega)
            have HO0 : Hid (OwnB (wr.alloc (.cells #[] 5)) wr.heap.size (some ⟨wr.heap.size, 0, none⟩) 0 0 []) := Lib.hid (OwnB.lit wr [] (by simp) rfl (by unfold maxLen; omega))
            have HPC := Lib.hid ((((HZ.out.below HBEL.out).mid haN).more (B' := wr.heap.size) HBEL.out.size).below ((Below.refl _ wr).alloc (Nat.le_refl _) (.cells #[] 5)))
            have HLA := Lib.hid (And.intro hlast haN)
            have hpl : ((zs.drop at_).take n0).length = n0 := by rw [List.length_take, List.length_drop, HZL.out]; omega
            have HPL := Lib.hid hpl
            clear hlast haN hpl
            go_wp2_with (refine wpList_append_bytes rfl (.tmp 55) (.tmp 61) rfl wr.heap.size (some ⟨wr.heap.size, 0, none⟩) 0 0 [] rfl HO0.out wr.heap.size (frB A c at_) n0 (c - at_) _ rfl HPC.out (by omega) (by simp) ?_)
            intro X6 xc6 w6 hx hb6
            have hb6' : Below wr.heap.size wr w6 := ((Below.refl _ wr).alloc (Nat.le_refl _) (.cells #[] 5)).trans hb6
            have hx6 : OwnB w6 wr.heap.size X6 n0 xc6 ((zs.drop at_).take n0) := by simpa using hx
            have HX6 := Lib.hid hx6
            have HB6 := Lib.hid hb6'
            clear hx hx6 hb6 hb6' HO0 HPC hsl
            obtain ⟨ps, rest, bad⟩ := F
            cases bad with
            | false =>
              have HR6 : Hid (RdM w6 w5.heap.size (rb + 1) A2 n2 c2 rest false) := Lib.hid (HRD.out.below HB6.out)
              have hrl : rest.length < 4100 := by have := Fr.fr_rest_lt (l := zs.take at_) (by rw [HF0.out]); rw [HF0.out] at this; exact this
              have hn2 : n2 < 4100 := by have := HR6.out.len; omega
              have hcn := Fr.fr_count (rest ++ (zs.drop at_).take n0)
              rw [List.length_append, HPL.out] at hcn
              have hz5 : w5.heap.size ≤ w6.heap.size := Nat.le_trans HOFF.out.size HB6.out.size
              have HFD := Lib.hid (feed_v w6 w5.heap.size (rb + 1) A2 n2 c2 rest X6 n0 xc6 ((zs.drop at_).take n0) (Fr.frV (rest ++ (zs.drop at_).take n0)) rfl HR6.out HX6.out.arg hz5 (by omega) (by omega))
              have happ := Fr.fr_app (zs.take at_) ((zs.drop at_).take n0) (by rw [HF0.out])
              rw [← take_mid, HF0.out] at happ
              obtain ⟨F2, hF2⟩ : ∃ F2, Fr.frV (rest ++ (zs.drop at_).take n0) = F2 := ⟨_, rfl⟩
              rw [hF2] at HFD happ hcn
              have HAPP := Lib.hid happ
              have HCN := Lib.hid (And.intro hcn hrl)
              have HZ5 := Lib.hid hz5
              have HPAY6 := Lib.hid (HPAY.out.below HB6.out)
              have he0 : erV false = 0 := rfl
              clear hrl hn2 hcn hz5 happ hF2 HRD HX6
              simp only [he0]
              go_wp2_with (with_reducible refine (HFD.out).mono ?_)
              rintro e w7 ⟨PB, k2, kc2, rs2, A7, n7, c7, rfl, f2, f3, f4, f5, f6, f7⟩
              have hdA : ∀ y ∈ blkP BA rs, y ∉ (rb + 1) :: bkV A2 := fun y hy hs => by
                rcases List.mem_cons.1 hs with rfl | hs
                · have := (HPAY.out.lt _ hy).1; have := Z5.out; omega
                · exact HDIS.out y hs hy
              have HPAY7 := Lib.hid (HPAY6.out.off f5 hdA)
              have HF2 := Lib.hid f2
              have HF3 := Lib.hid f3
              have HF4 := Lib.hid f4
              have HF5 := Lib.hid f5
              have HF67 := Lib.hid (And.intro f6 f7)
              have hk1 : (bk + k2) * 24 ≤ 140737488355328 := by
                have h1 := HPAY.out.len
                have h2 := congrArg List.length HP0.out
                have h3 := f3.len
                have h4 := congrArg List.length f2
                have h5 := Fr.fr_count (zs.take at_)
                rw [HF0.out, List.length_take] at h5
                have h6 := HCN.out.1
                have h7 := HCN.out.2
                simp only [List.length_map] at h2 h4 h5
                omega
              have HK1 := Lib.hid hk1
              have HZ7 : Hid (w5.heap.size ≤ w7.heap.size) := Lib.hid (Nat.le_trans HZ5.out f5.size)
              have HSR := Lib.hid f3.src
              have HSN : Hid (PB = none → kc2 = 0) := Lib.hid f3.none_
              clear f2 f3 f4 f5 f6 f7 hdA hk1
              go_wp2_with (refine wpList_append_a Try.underlying46 hj hjz hj1 hj2 rfl rfl (.tmp 71) (.tmp 72) rfl rfl HPAY7.out.own PB k2 kc2 _ rfl HSR.out HSN.out (by omega) HK1.out HZ7.out ?_)
              intro B8 bc8 w8 o8 f8 g8
              have hlt6 : ∀ y ∈ blkP BA rs, y < w6.heap.size := fun y hy => (HPAY6.out.lt y hy).2
              have hpay8 := HPAY7.out.app HF3.out HZ5.out hlt6 o8 f8 g8
              have hA7lt : ∀ y ∈ bkV A7, w5.heap.size ≤ y ∧ y < w7.heap.size := fun y hy => HF4.out.own.lt y hy
              have hA7n : ∀ y ∈ bkV A7, y ∉ blkP BA rs := fun y hy hs => by
                rcases HF67.out.1 y hy with h | h
                · exact HDIS.out y h hs
                · have := hlt6 y hs; omega
              have hBA : ∀ y ∈ bkV BA, w5.heap.size ≤ y := fun y hy => (HPAY.out.lt y (List.mem_append.2 (.inl hy))).1
              have hz5r := Z5.out
              have HE : Hid (CuI w w5 (rb + 1) zs (at_ + n0) (.slice B8 (bk + k2) bc8) (.int .i64 (erV F2.2.2)) w8) := by
                refine Lib.hid ⟨B8, bk + k2, bc8, rs ++ rs2, A7, n7, c7, rfl, ?_, ?_, hpay8, ?_, ?_, ?_, ?_⟩
                · rw [HAPP.out]
                · rw [HAPP.out, List.map_append, HP0.out, HF2.out]
                · rw [HAPP.out]
                  refine HF4.out.off f8 (fun hs => ?_) (fun y hy hs => hA7n y hy (List.mem_append.2 (.inl hs)))
                  have := hBA _ hs; omega
                · intro y hy hs
                  rcases blkP_app (P := fun _ => True) (fun y hy => (g8 y hy).imp id And.left) hs with h | h | h
                  · exact hA7n y hy h
                  · exact HF67.out.2 y hy (List.mem_append.2 (.inr h))
                  · have := (hA7lt y hy).2; omega
                · refine ((HOFF.out.trans (Off.of_below HB6.out)).new HF5.out fun y hy => ?_).new f8 fun y hy => .inr (hBA y hy)
                  rcases List.mem_cons.1 hy with rfl | hy
                  · exact .inl (by simp)
                  · exact .inr (HR6.out.own.lt y hy).1
                · have hw5 := B5.out.size
                  refine ((HBEL.out.trans (HB6.out.mono HBEL.out.size)).trans (HF5.out.below (Nat.le_trans HBEL.out.size HB6.out.size) fun y hy => ?_)).trans (f8.below (by have := HZ7.out; omega) fun y hy => by have := hBA y hy; omega)
                  rcases List.mem_cons.1 hy with rfl | hy
                  · omega
                  · have := (HR6.out.own.lt y hy).1; omega
              clear hlt6 hpay8 hA7lt hA7n hBA o8 f8 g8
              go_wp2
              go_roundw
              case rel => exact ⟨i + 1, at_ + n0, by push_cast; rfl, by push_cast; rfl, by omega, HLA.out.2, HLA.out.1, HE.out⟩
              case measure => simp [intOf]; omega
            | true =>
              have HR6 : Hid (RdM w6 w5.heap.size (rb + 1) A2 n2 c2 [] true) := Lib.hid (HRD.out.below HB6.out)
              have HFD := Lib.hid (feed_closed w6 (rb + 1) _ (.slice X6 n0 xc6) HR6.out.blk)
              have happ := Fr.fr_app_bad (zs.take at_) ((zs.drop at_).take n0) (by rw [HF0.out])
              rw [← take_mid, HF0.out] at happ
              have HAPP := Lib.hid happ
              have he0 : erV true = 12 := rfl
              clear happ HRD HX6
              simp only [he0]
              go_wp2_with (with_reducible refine (HFD.out).mono ?_)
              rintro e w7 ⟨rfl, hb7⟩
              have HB7 := Lib.hid (HB6.out.trans (hb7.mono HB6.out.size))
              have HE : Hid (CuI w w5 (rb + 1) zs (at_ + n0) (.slice BA bk bc) (.int .i64 12) w7) := by
                refine Lib.hid ⟨BA, bk, bc, rs, A2, n2, c2, rfl, ?_, ?_, HPAY.out.below HB7.out, ?_, HDIS.out, HOFF.out.trans (Off.of_below HB7.out), HBEL.out.trans (HB7.out.mono HBEL.out.size)⟩
                · rw [HAPP.out]; rfl
                · rw [HAPP.out, HP0.out]
                · rw [HAPP.out]; exact HR6.out.below hb7
              clear hb7
              go_wp2
              go_roundw
              case rel => exact ⟨i + 1, at_ + n0, by push_cast; rfl, by push_cast; rfl, by omega, HLA.out.2, HLA.out.1, HE.out⟩
              case measure => simp [intOf]; omega
          · subst hq
            have hnn : n0 ≤ n0 := by omega
            have hlast : i + 1 = 301 → at_ + n0 = N := by have := HN0.out; omega
            have haN : at_ + n0 ≤ N := by have := HN0.out; omega
            have hsl := fun wz => run_midB wz A N c at_ n0 (by have := HC.out; omega)
            have HO0 : Hid (OwnB (wr.alloc (.cells #[] 5)) wr.heap.size (some ⟨wr.heap.size, 0, none⟩) 0 0 []) := Lib.hid (OwnB.lit wr [] (by simp) rfl (by unfold maxLen; omega))
            have HPC := Lib.hid ((((HZ.out.below HBEL.out).mid haN).more (B' := wr.heap.size) HBEL.out.size).below ((Below.refl _ wr).alloc (Nat.le_refl _) (.cells #[] 5)))
            have HLA := Lib.hid (And.intro hlast haN)
            have hpl : ((zs.drop at_).take n0).length = n0 := by rw [List.length_take, List.length_drop, HZL.out]; omega
            have HPL := Lib.hid hpl
            clear hlast haN hpl
            go_wp2_with (refine wpList_append_bytes rfl (.tmp 55) (.tmp 61) rfl wr.heap.size (some ⟨wr.heap.size, 0, none⟩) 0 0 [] rfl HO0.out wr.heap.size (frB A c at_) n0 (c - at_) _ rfl HPC.out (by omega) (by simp) ?_)
            intro X6 xc6 w6 hx hb6
            have hb6' : Below wr.heap.size wr w6 := ((Below.refl _ wr).alloc (Nat.le_refl _) (.cells #[] 5)).trans hb6
            have hx6 : OwnB w6 wr.heap.size X6 n0 xc6 ((zs.drop at_).take n0) := by simpa using hx
            have HX6 := Lib.hid hx6
            have HB6 := Lib.hid hb6'
            clear hx hx6 hb6 hb6' HO0 HPC hsl
            obtain ⟨ps, rest, bad⟩ := F
            cases bad with
            | false =>
              have HR6 : Hid (RdM w6 w5.heap.size (rb + 1) A2 n2 c2 rest false) := Lib.hid (HRD.out.below HB6.out)
              have hrl : rest.length < 4100 := by have := Fr.fr_rest_lt (l := zs.take at_) (by rw [HF0.out]); rw [HF0.out] at this; exact this
              have hn2 : n2 < 4100 := by have := HR6.out.len; omega
              have hcn := Fr.fr_count (rest ++ (zs.drop at_).take n0)
              rw [List.length_append, HPL.out] at hcn
              have hz5 : w5.heap.size ≤ w6.heap.size := Nat.le_trans HOFF.out.size HB6.out.size
              have HFD := Lib.hid (feed_v w6 w5.heap.size (rb + 1) A2 n2 c2 rest X6 n0 xc6 ((zs.drop at_).take n0) (Fr.frV (rest ++ (zs.drop at_).take n0)) rfl HR6.out HX6.out.arg hz5 (by omega) (by omega))
              have happ := Fr.fr_app (zs.take at_) ((zs.drop at_).take n0) (by rw [HF0.out])
              rw [← take_mid, HF0.out] at happ
              obtain ⟨F2, hF2⟩ : ∃ F2, Fr.frV (rest ++ (zs.drop at_).take n0) = F2 := ⟨_, rfl⟩
              rw [hF2] at HFD happ hcn
              have HAPP := Lib.hid happ
              have HCN := Lib.hid (And.intro hcn hrl)
              have HZ5 := Lib.hid hz5
              have HPAY6 := Lib.hid (HPAY.out.below HB6.out)
              have he0 : erV false = 0 := rfl
              clear hrl hn2 hcn hz5 happ hF2 HRD HX6
              simp only [he0]
              go_wp2_with (with_reducible refine (HFD.out).mono ?_)
              rintro e w7 ⟨PB, k2, kc2, rs2, A7, n7, c7, rfl, f2, f3, f4, f5, f6, f7⟩
              have hdA : ∀ y ∈ blkP BA rs, y ∉ (rb + 1) :: bkV A2 := fun y hy hs => by
                rcases List.mem_cons.1 hs with rfl | hs
                · have := (HPAY.out.lt _ hy).1; have := Z5.out; omega
                · exact HDIS.out y hs hy
              have HPAY7 := Lib.hid (HPAY6.out.off f5 hdA)
              have HF2 := Lib.hid f2
              have HF3 := Lib.hid f3
              have HF4 := Lib.hid f4
              have HF5 := Lib.hid f5
              have HF67 := Lib.hid (And.intro f6 f7)
              have hk1 : (bk + k2) * 24 ≤ 140737488355328 := by
                have h1 := HPAY.out.len
                have h2 := congrArg List.length HP0.out
                have h3 := f3.len
                have h4 := congrArg List.length f2
                have h5 := Fr.fr_count (zs.take at_)
                rw [HF0.out, List.length_take] at h5
                have h6 := HCN.out.1
                have h7 := HCN.out.2
                simp only [List.length_map] at h2 h4 h5
                omega
              have HK1 := Lib.hid hk1
              have HZ7 : Hid (w5.heap.size ≤ w7.heap.size) := Lib.hid (Nat.le_trans HZ5.out f5.size)
              have HSR := Lib.hid f3.src
              have HSN : Hid (PB = none → kc2 = 0) := Lib.hid f3.none_
              clear f2 f3 f4 f5 f6 f7 hdA hk1
              go_wp2_with (refine wpList_append_a Try.underlying46 hj hjz hj1 hj2 rfl rfl (.tmp 71) (.tmp 72) rfl rfl HPAY7.out.own PB k2 kc2 _ rfl HSR.out HSN.out (by omega) HK1.out HZ7.out ?_)
              intro B8 bc8 w8 o8 f8 g8
              have hlt6 : ∀ y ∈ blkP BA rs, y < w6.heap.size := fun y hy => (HPAY6.out.lt y hy).2
              have hpay8 := HPAY7.out.app HF3.out HZ5.out hlt6 o8 f8 g8
              have hA7lt : ∀ y ∈ bkV A7, w5.heap.size ≤ y ∧ y < w7.heap.size := fun y hy => HF4.out.own.lt y hy
              have hA7n : ∀ y ∈ bkV A7, y ∉ blkP BA rs := fun y hy hs => by
                rcases HF67.out.1 y hy with h | h
                · exact HDIS.out y h hs
                · have := hlt6 y hs; omega
              have hBA : ∀ y ∈ bkV BA, w5.heap.size ≤ y := fun y hy => (HPAY.out.lt y (List.mem_append.2 (.inl hy))).1
              have hz5r := Z5.out
              have HE : Hid (CuI w w5 (rb + 1) zs (at_ + n0) (.slice B8 (bk + k2) bc8) (.int .i64 (erV F2.2.2)) w8) := by
                refine Lib.hid ⟨B8, bk + k2, bc8, rs ++ rs2, A7, n7, c7, rfl, ?_, ?_, hpay8, ?_, ?_, ?_, ?_⟩
                · rw [HAPP.out]
                · rw [HAPP.out, List.map_append, HP0.out, HF2.out]
                · rw [HAPP.out]
                  refine HF4.out.off f8 (fun hs => ?_) (fun y hy hs => hA7n y hy (List.mem_append.2 (.inl hs)))
                  have := hBA _ hs; omega
                · intro y hy hs
                  rcases blkP_app (P := fun _ => True) (fun y hy => (g8 y hy).imp id And.left) hs with h | h | h
                  · exact hA7n y hy h
                  · exact HF67.out.2 y hy (List.mem_append.2 (.inr h))
                  · have := (hA7lt y hy).2; omega
                · refine ((HOFF.out.trans (Off.of_below HB6.out)).new HF5.out fun y hy => ?_).new f8 fun y hy => .inr (hBA y hy)
                  rcases List.mem_cons.1 hy with rfl | hy
                  · exact .inl (by simp)
                  · exact .inr (HR6.out.own.lt y hy).1
                · have hw5 := B5.out.size
                  refine ((HBEL.out.trans (HB6.out.mono HBEL.out.size)).trans (HF5.out.below (Nat.le_trans HBEL.out.size HB6.out.size) fun y hy => ?_)).trans (f8.below (by have := HZ7.out; omega) fun y hy => by have := hBA y hy; omega)
                  rcases List.mem_cons.1 hy with rfl | hy
                  · omega
                  · have := (HR6.out.own.lt y hy).1; omega
              clear hlt6 hpay8 hA7lt hA7n hBA o8 f8 g8
              go_wp2
              go_roundw
              case rel => exact ⟨i + 1, at_ + n0, by push_cast; rfl, by push_cast; rfl, by omega, HLA.out.2, HLA.out.1, HE.out⟩
              case measure => simp [intOf]; omega
            | true =>
              have HR6 : Hid (RdM w6 w5.heap.size (rb + 1) A2 n2 c2 [] true) := Lib.hid (HRD.out.below HB6.out)
              have HFD := Lib.hid (feed_closed w6 (rb + 1) _ (.slice X6 n0 xc6) HR6.out.blk)
              have happ := Fr.fr_app_bad (zs.take at_) ((zs.drop at_).take n0) (by rw [HF0.out])
              rw [← take_mid, HF0.out] at happ
              have HAPP := Lib.hid happ
              have he0 : erV true = 12 := rfl
              clear happ HRD HX6
              simp only [he0]
              go_wp2_with (with_reducible refine (HFD.out).mono ?_)
              rintro e w7 ⟨rfl, hb7⟩
              have HB7 := Lib.hid (HB6.out.trans (hb7.mono HB6.out.size))
              have HE : Hid (CuI w w5 (rb + 1) zs (at_ + n0) (.slice BA bk bc) (.int .i64 12) w7) := by
                refine Lib.hid ⟨BA, bk, bc, rs, A2, n2, c2, rfl, ?_, ?_, HPAY.out.below HB7.out, ?_, HDIS.out, HOFF.out.trans (Off.of_below HB7.out), HBEL.out.trans (HB7.out.mono HBEL.out.size)⟩
                · rw [HAPP.out]; rfl
                · rw [HAPP.out, HP0.out]
                · rw [HAPP.out]; exact HR6.out.below hb7
              clear hb7
              go_wp2
              go_roundw
              case rel => exact ⟨i + 1, at_ + n0, by push_cast; rfl, by push_cast; rfl, by omega, HLA.out.2, HLA.out.1, HE.out⟩
              case measure => simp [intOf]; omega
          · have hnn : q ≤ n0 := by omega
            have hlast : i + 1 = 301 → at_ + q = N := by have := HN0.out; omega
            have haN : at_ + q ≤ N := by have := HN0.out; omega
            have hsl := fun wz => run_midB wz A N c at_ q (by have := HC.out; omega)
            have HO0 : Hid (OwnB (wr.alloc (.cells #[] 5)) wr.heap.size (some ⟨wr.heap.size, 0, none⟩) 0 0 []) := Lib.hid (OwnB.lit wr [] (by simp) rfl (by unfold maxLen; omega))
            have HPC := Lib.hid ((((HZ.out.below HBEL.out).mid haN).more (B' := wr.heap.size) HBEL.out.size).below ((Below.refl _ wr).alloc (Nat.le_refl _) (.cells #[] 5)))
            have HLA := Lib.hid (And.intro hlast haN)
            have hpl : ((zs.drop at_).take q).length = q := by rw [List.length_take, List.length_drop, HZL.out]; omega
            have HPL := Lib.hid hpl
            clear hlast haN hpl
            go_wp2_with (refine wpList_append_bytes rfl (.tmp 55) (.tmp 61) rfl wr.heap.size (some ⟨wr.heap.size, 0, none⟩) 0 0 [] rfl HO0.out wr.heap.size (frB A c at_) q (c - at_) _ rfl HPC.out (by omega) (by simp) ?_)
            intro X6 xc6 w6 hx hb6
            have hb6' : Below wr.heap.size wr w6 := ((Below.refl _ wr).alloc (Nat.le_refl _) (.cells #[] 5)).trans hb6
            have hx6 : OwnB w6 wr.heap.size X6 q xc6 ((zs.drop at_).take q) := by simpa using hx
            have HX6 := Lib.hid hx6
            have HB6 := Lib.hid hb6'
            clear hx hx6 hb6 hb6' HO0 HPC hsl
            obtain ⟨ps, rest, bad⟩ := F
            cases bad with
            | false =>
              have HR6 : Hid (RdM w6 w5.heap.size (rb + 1) A2 n2 c2 rest false) := Lib.hid (HRD.out.below HB6.out)
              have hrl : rest.length < 4100 := by have := Fr.fr_rest_lt (l := zs.take at_) (by rw [HF0.out]); rw [HF0.out] at this; exact this
              have hn2 : n2 < 4100 := by have := HR6.out.len; omega
              have hcn := Fr.fr_count (rest ++ (zs.drop at_).take q)
              rw [List.length_append, HPL.out] at hcn
              have hz5 : w5.heap.size ≤ w6.heap.size := Nat.le_trans HOFF.out.size HB6.out.size
              have HFD := Lib.hid (feed_v w6 w5.heap.size (rb + 1) A2 n2 c2 rest X6 q xc6 ((zs.drop at_).take q) (Fr.frV (rest ++ (zs.drop at_).take q)) rfl HR6.out HX6.out.arg hz5 (by omega) (by omega))
              have happ := Fr.fr_app (zs.take at_) ((zs.drop at_).take q) (by rw [HF0.out])
              rw [← take_mid, HF0.out] at happ
              obtain ⟨F2, hF2⟩ : ∃ F2, Fr.frV (rest ++ (zs.drop at_).take q) = F2 := ⟨_, rfl⟩
              rw [hF2] at HFD happ hcn
              have HAPP := Lib.hid happ
              have HCN := Lib.hid (And.intro hcn hrl)
              have HZ5 := Lib.hid hz5
              have HPAY6 := Lib.hid (HPAY.out.below HB6.out)
              have he0 : erV false = 0 := rfl
              clear hrl hn2 hcn hz5 happ hF2 HRD HX6
              simp only [he0]
              go_wp2_with (with_reducible refine (HFD.out).mono ?_)
              rintro e w7 ⟨PB, k2, kc2, rs2, A7, n7, c7, rfl, f2, f3, f4, f5, f6, f7⟩
              have hdA : ∀ y ∈ blkP BA rs, y ∉ (rb + 1) :: bkV A2 := fun y hy hs => by
                rcases List.mem_cons.1 hs with rfl | hs
                · have := (HPAY.out.lt _ hy).1; have := Z5.out; omega
                · exact HDIS.out y hs hy
              have HPAY7 := Lib.hid (HPAY6.out.off f5 hdA)
              have HF2 := Lib.hid f2
              have HF3 := Lib.hid f3
              have HF4 := Lib.hid f4
              have HF5 := Lib.hid f5
              have HF67 := Lib.hid (And.intro f6 f7)
              have hk1 : (bk + k2) * 24 ≤ 140737488355328 := by
                have h1 := HPAY.out.len
                have h2 := congrArg List.length HP0.out
                have h3 := f3.len
                have h4 := congrArg List.length f2
                have h5 := Fr.fr_count (zs.take at_)
                rw [HF0.out, List.length_take] at h5
                have h6 := HCN.out.1
                have h7 := HCN.out.2
                simp only [List.length_map] at h2 h4 h5
                omega
              have HK1 := Lib.hid hk1
              have HZ7 : Hid (w5.heap.size ≤ w7.heap.size) := Lib.hid (Nat.le_trans HZ5.out f5.size)
              have HSR := Lib.hid f3.src
              have HSN : Hid (PB = none → kc2 = 0) := Lib.hid f3.none_
              clear f2 f3 f4 f5 f6 f7 hdA hk1
              go_wp2_with (refine wpList_append_a Try.underlying46 hj hjz hj1 hj2 rfl rfl (.tmp 71) (.tmp 72) rfl rfl HPAY7.out.own PB k2 kc2 _ rfl HSR.out HSN.out (by omega) HK1.out HZ7.out ?_)
              intro B8 bc8 w8 o8 f8 g8
              have hlt6 : ∀ y ∈ blkP BA rs, y < w6.heap.size := fun y hy => (HPAY6.out.lt y hy).2
              have hpay8 := HPAY7.out.app HF3.out HZ5.out hlt6 o8 f8 g8
              have hA7lt : ∀ y ∈ bkV A7, w5.heap.size ≤ y ∧ y < w7.heap.size := fun y hy => HF4.out.own.lt y hy
              have hA7n : ∀ y ∈ bkV A7, y ∉ blkP BA rs := fun y hy hs => by
                rcases HF67.out.1 y hy with h | h
                · exact HDIS.out y h hs
                · have := hlt6 y hs; omega
              have hBA : ∀ y ∈ bkV BA, w5.heap.size ≤ y := fun y hy => (HPAY.out.lt y (List.mem_append.2 (.inl hy))).1
              have hz5r := Z5.out
              have HE : Hid (CuI w w5 (rb + 1) zs (at_ + q) (.slice B8 (bk + k2) bc8) (.int .i64 (erV F2.2.2)) w8) := by
                refine Lib.hid ⟨B8, bk + k2, bc8, rs ++ rs2, A7, n7, c7, rfl, ?_, ?_, hpay8, ?_, ?_, ?_, ?_⟩
                · rw [HAPP.out]
                · rw [HAPP.out, List.map_append, HP0.out, HF2.out]
                · rw [HAPP.out]
                  refine HF4.out.off f8 (fun hs => ?_) (fun y hy hs => hA7n y hy (List.mem_append.2 (.inl hs)))
                  have := hBA _ hs; omega
                · intro y hy hs
                  rcases blkP_app (P := fun _ => True) (fun y hy => (g8 y hy).imp id And.left) hs with h | h | h
                  · exact hA7n y hy h
                  · exact HF67.out.2 y hy (List.mem_append.2 (.inr h))
                  · have := (hA7lt y hy).2; omega
                · refine ((HOFF.out.trans (Off.of_below HB6.out)).new HF5.out fun y hy => ?_).new f8 fun y hy => .inr (hBA y hy)
                  rcases List.mem_cons.1 hy with rfl | hy
                  · exact .inl (by simp)
                  · exact .inr (HR6.out.own.lt y hy).1
                · have hw5 := B5.out.size
                  refine ((HBEL.out.trans (HB6.out.mono HBEL.out.size)).trans (HF5.out.below (Nat.le_trans HBEL.out.size HB6.out.size) fun y hy => ?_)).trans (f8.below (by have := HZ7.out; omega) fun y hy => by have := hBA y hy; omega)
                  rcases List.mem_cons.1 hy with rfl | hy
                  · omega
                  · have := (HR6.out.own.lt y hy).1; omega
              clear hlt6 hpay8 hA7lt hA7n hBA o8 f8 g8
              go_wp2
              go_roundw
              case rel => exact ⟨i + 1, at_ + q, by push_cast; rfl, by push_cast; rfl, by omega, HLA.out.2, HLA.out.1, HE.out⟩
              case measure => simp [intOf]; omega
            | true =>
              have HR6 : Hid (RdM w6 w5.heap.size (rb + 1) A2 n2 c2 [] true) := Lib.hid (HRD.out.below HB6.out)
              have HFD := Lib.hid (feed_closed w6 (rb + 1) _ (.slice X6 q xc6) HR6.out.blk)
              have happ := Fr.fr_app_bad (zs.take at_) ((zs.drop at_).take q) (by rw [HF0.out])
              rw [← take_mid, HF0.out] at happ
              have HAPP := Lib.hid happ
              have he0 : erV true = 12 := rfl
              clear happ HRD HX6
              simp only [he0]
              go_wp2_with (with_reducible refine (HFD.out).mono ?_)
              rintro e w7 ⟨rfl, hb7⟩
              have HB7 := Lib.hid (HB6.out.trans (hb7.mono HB6.out.size))
              have HE : Hid (CuI w w5 (rb + 1) zs (at_ + q) (.slice BA bk bc) (.int .i64 12) w7) := by
                refine Lib.hid ⟨BA, bk, bc, rs, A2, n2, c2, rfl, ?_, ?_, HPAY.out.below HB7.out, ?_, HDIS.out, HOFF.out.trans (Off.of_below HB7.out), HBEL.out.trans (HB7.out.mono HBEL.out.size)⟩
                · rw [HAPP.out]; rfl
                · rw [HAPP.out, HP0.out]
                · rw [HAPP.out]; exact HR6.out.below hb7
              clear hb7
              go_wp2
              go_roundw
              case rel => exact ⟨i + 1, at_ + q, by push_cast; rfl, by push_cast; rfl, by omega, HLA.out.2, HLA.out.1, HE.out⟩
              case measure => simp [intOf]; omega
        · have e1 : decide (i < m) = true := by simp; omega
          have e2 : decide ((i : Int) < 300) = false := by simp; omega
          have hnn : n0 ≤ n0 := by omega
          have hlast : i + 1 = 301 → at_ + n0 = N := by have := HN0.out; omega
          have haN : at_ + n0 ≤ N := by have := HN0.out; omega
          have hsl := fun wz => run_midB wz A N c at_ n0 (by have := HC.out; omega)
          have HO0 : Hid (OwnB (wr.alloc (.cells #[] 5)) wr.heap.size (some ⟨wr.heap.size, 0, none⟩) 0 0 []) := Lib.hid (OwnB.lit wr [] (by simp) rfl (by unfold maxLen; omega))
          have HPC := Lib.hid ((((HZ.out.below HBEL.out).mid haN).more (B' := wr.heap.size) HBEL.out.size).below ((Below.refl _ wr).alloc (Nat.le_refl _) (.cells #[] 5)))
          have HLA := Lib.hid (And.intro hlast haN)
          have hpl : ((zs.drop at_).take n0).length = n0 := by rw [List.length_take, List.length_drop, HZL.out]; omega
          have HPL := Lib.hid hpl
          clear hlast haN hpl
          go_wp2_with (refine wpList_append_bytes rfl (.tmp 55) (.tmp 61) rfl wr.heap.size (some ⟨wr.heap.size, 0, none⟩) 0 0 [] rfl HO0.out wr.heap.size (frB A c at_) n0 (c - at_) _ rfl HPC.out (by omega) (by simp) ?_)
          intro X6 xc6 w6 hx hb6
          have hb6' : Below wr.heap.size wr w6 := ((Below.refl _ wr).alloc (Nat.le_refl _) (.cells #[] 5)).trans hb6
          have hx6 : OwnB w6 wr.heap.size X6 n0 xc6 ((zs.drop at_).take n0) := by simpa using hx
          have HX6 := Lib.hid hx6
          have HB6 := Lib.hid hb6'
          clear hx hx6 hb6 hb6' HO0 HPC hsl
          obtain ⟨ps, rest, bad⟩ := F
          cases bad with
          | false =>
            have HR6 : Hid (RdM w6 w5.heap.size (rb + 1) A2 n2 c2 rest false) := Lib.hid (HRD.out.below HB6.out)
            have hrl : rest.length < 4100 := by have := Fr.fr_rest_lt (l := zs.take at_) (by rw [HF0.out]); rw [HF0.out] at this; exact this
            have hn2 : n2 < 4100 := by have := HR6.out.len; omega
            have hcn := Fr.fr_count (rest ++ (zs.drop at_).take n0)
            rw [List.length_append, HPL.out] at hcn
            have hz5 : w5.heap.size ≤ w6.heap.size := Nat.le_trans HOFF.out.size HB6.out.size
            have HFD := Lib.hid (feed_v w6 w5.heap.size (rb + 1) A2 n2 c2 rest X6 n0 xc6 ((zs.drop at_).take n0) (Fr.frV (rest ++ (zs.drop at_).take n0)) rfl HR6.out HX6.out.arg hz5 (by omega) (by omega))
            have happ := Fr.fr_app (zs.take at_) ((zs.drop at_).take n0) (by rw [HF0.out])
            rw [← take_mid, HF0.out] at happ
            obtain ⟨F2, hF2⟩ : ∃ F2, Fr.frV (rest ++ (zs.drop at_).take n0) = F2 := ⟨_, rfl⟩
            rw [hF2] at HFD happ hcn
            have HAPP := Lib.hid happ
            have HCN := Lib.hid (And.intro hcn hrl)
            have HZ5 := Lib.hid hz5
            have HPAY6 := Lib.hid (HPAY.out.below HB6.out)
            have he0 : erV false = 0 := rfl
            clear hrl hn2 hcn hz5 happ hF2 HRD HX6
            simp only [he0]
            go_wp2_with (with_reducible refine (HFD.out).mono ?_)
            rintro e w7 ⟨PB, k2, kc2, rs2, A7, n7, c7, rfl, f2, f3, f4, f5, f6, f7⟩
            have hdA : ∀ y ∈ blkP BA rs, y ∉ (rb + 1) :: bkV A2 := fun y hy hs => by
              rcases List.mem_cons.1 hs with rfl | hs
              · have := (HPAY.out.lt _ hy).1; have := Z5.out; omega
              · exact HDIS.out y hs hy
            have HPAY7 := Lib.hid (HPAY6.out.off f5 hdA)
            have HF2 := Lib.hid f2
            have HF3 := Lib.hid f3
            have HF4 := Lib.hid f4
            have HF5 := Lib.hid f5
            have HF67 := Lib.hid (And.intro f6 f7)
            have hk1 : (bk + k2) * 24 ≤ 140737488355328 := by
              have h1 := HPAY.out.len
              have h2 := congrArg List.length HP0.out
              have h3 := f3.len
              have h4 := congrArg List.length f2
              have h5 := Fr.fr_count (zs.take at_)
              rw [HF0.out, List.length_take] at h5
              have h6 := HCN.out.1
              have h7 := HCN.out.2
              simp only [List.length_map] at h2 h4 h5
              omega
            have HK1 := Lib.hid hk1
            have HZ7 : Hid (w5.heap.size ≤ w7.heap.size) := Lib.hid (Nat.le_trans HZ5.out f5.size)
            have HSR := Lib.hid f3.src
            have HSN : Hid (PB = none → kc2 = 0) := Lib.hid f3.none_
            clear f2 f3 f4 f5 f6 f7 hdA hk1
            go_wp2_with (refine wpList_append_a Try.underlying46 hj hjz hj1 hj2 rfl rfl (.tmp 71) (.tmp 72) rfl rfl HPAY7.out.own PB k2 kc2 _ rfl HSR.out HSN.out (by omega) HK1.out HZ7.out ?_)
            intro B8 bc8 w8 o8 f8 g8
            have hlt6 : ∀ y ∈ blkP BA rs, y < w6.heap.size := fun y hy => (HPAY6.out.lt y hy).2
            have hpay8 := HPAY7.out.app HF3.out HZ5.out hlt6 o8 f8 g8
            have hA7lt : ∀ y ∈ bkV A7, w5.heap.size ≤ y ∧ y < w7.heap.size := fun y hy => HF4.out.own.lt y hy
            have hA7n : ∀ y ∈ bkV A7, y ∉ blkP BA rs := fun y hy hs => by
              rcases HF67.out.1 y hy with h | h
              · exact HDIS.out y h hs
              · have := hlt6 y hs; omega
            have hBA : ∀ y ∈ bkV BA, w5.heap.size ≤ y := fun y hy => (HPAY.out.lt y (List.mem_append.2 (.inl hy))).1
            have hz5r := Z5.out
            have HE : Hid (CuI w w5 (rb + 1) zs (at_ + n0) (.slice B8 (bk + k2) bc8) (.int .i64 (erV F2.2.2)) w8) := by
              refine Lib.hid ⟨B8, bk + k2, bc8, rs ++ rs2, A7, n7, c7, rfl, ?_, ?_, hpay8, ?_, ?_, ?_, ?_⟩
              · rw [HAPP.out]
              · rw [HAPP.out, List.map_append, HP0.out, HF2.out]
              · rw [HAPP.out]
                refine HF4.out.off f8 (fun hs => ?_) (fun y hy hs => hA7n y hy (List.mem_append.2 (.inl hs)))
                have := hBA _ hs; omega
              · intro y hy hs
                rcases blkP_app (P := fun _ => True) (fun y hy => (g8 y hy).imp id And.left) hs with h | h | h
                · exact hA7n y hy h
                · exact HF67.out.2 y hy (List.mem_append.2 (.inr h))
                · have := (hA7lt y hy).2; omega
              · refine ((HOFF.out.trans (Off.of_below HB6.out)).new HF5.out fun y hy => ?_).new f8 fun y hy => .inr (hBA y hy)
                rcases List.mem_cons.1 hy with rfl | hy
                · exact .inl (by simp)
                · exact .inr (HR6.out.own.lt y hy).1
              · have hw5 := B5.out.size
                refine ((HBEL.out.trans (HB6.out.mono HBEL.out.size)).trans (HF5.out.below (Nat.le_trans HBEL.out.size HB6.out.size) fun y hy => ?_)).trans (f8.below (by have := HZ7.out; omega) fun y hy => by have := hBA y hy; omega)
                rcases List.mem_cons.1 hy with rfl | hy
                · omega
                · have := (HR6.out.own.lt y hy).1; omega
            clear hlt6 hpay8 hA7lt hA7n hBA o8 f8 g8
            go_wp2
            go_roundw
            case rel => exact ⟨i + 1, at_ + n0, by push_cast; rfl, by push_cast; rfl, by omega, HLA.out.2, HLA.out.1, HE.out⟩
            case measure => simp [intOf]; omega
          | true =>
            have HR6 : Hid (RdM w6 w5.heap.size (rb + 1) A2 n2 c2 [] true) := Lib.hid (HRD.out.below HB6.out)
            have HFD := Lib.hid (feed_closed w6 (rb + 1) _ (.slice X6 n0 xc6) HR6.out.blk)
            have happ := Fr.fr_app_bad (zs.take at_) ((zs.drop at_).take n0) (by rw [HF0.out])
            rw [← take_mid, HF0.out] at happ
            have HAPP := Lib.hid happ
            have he0 : erV true = 12 := rfl
            clear happ HRD HX6
            simp only [he0]
            go_wp2_with (with_reducible refine (HFD.out).mono ?_)
            rintro e w7 ⟨rfl, hb7⟩
            have HB7 := Lib.hid (HB6.out.trans (hb7.mono HB6.out.size))
            have HE : Hid (CuI w w5 (rb + 1) zs (at_ + n0) (.slice BA bk bc) (.int .i64 12) w7) := by
              refine Lib.hid ⟨BA, bk, bc, rs, A2, n2, c2, rfl, ?_, ?_, HPAY.out.below HB7.out, ?_, HDIS.out, HOFF.out.trans (Off.of_below HB7.out), HBEL.out.trans (HB7.out.mono HBEL.out.size)⟩
              · rw [HAPP.out]; rfl
              · rw [HAPP.out, HP0.out]
              · rw [HAPP.out]; exact HR6.out.below hb7
            clear hb7
            go_wp2
            go_roundw
            case rel => exact ⟨i + 1, at_ + n0, by push_cast; rfl, by push_cast; rfl, by omega, HLA.out.2, HLA.out.1, HE.out⟩
            case measure => simp [intOf]; omega
      · have e1 : decide (i < m) = false := by simp; omega
        have hnn : n0 ≤ n0 := by omega
        have hlast : i + 1 = 301 → at_ + n0 = N := by have := HN0.out; omega
        have haN : at_ + n0 ≤ N := by have := HN0.out; omega
        have hsl := fun wz => run_midB wz A N c at_ n0 (by have := HC.out; omega)
        have HO0 : Hid (OwnB (wr.alloc (.cells #[] 5)) wr.heap.size (some ⟨wr.heap.size, 0, none⟩) 0 0 []) := Lib.hid (OwnB.lit wr [] (by simp) rfl (by unfold maxLen; omega))
        have HPC := Lib.hid ((((HZ.out.below HBEL.out).mid haN).more (B' := wr.heap.size) HBEL.out.size).below ((Below.refl _ wr).alloc (Nat.le_refl _) (.cells #[] 5)))
        have HLA := Lib.hid (And.intro hlast haN)
        have hpl : ((zs.drop at_).take n0).length = n0 := by rw [List.length_take, List.length_drop, HZL.out]; omega
        have HPL := Lib.hid hpl
        clear hlast haN hpl
        go_wp2_with (refine wpList_append_bytes rfl (.tmp 55) (.tmp 61) rfl wr.heap.size (some ⟨wr.heap.size, 0, none⟩) 0 0 [] rfl HO0.out wr.heap.size (frB A c at_) n0 (c - at_) _ rfl HPC.out (by omega) (by simp) ?_)
        intro X6 xc6 w6 hx hb6
        have hb6' : Below wr.heap.size wr w6 := ((Below.refl _ wr).alloc (Nat.le_refl _) (.cells #[] 5)).trans hb6
        have hx6 : OwnB w6 wr.heap.size X6 n0 xc6 ((zs.drop at_).take n0) := by simpa using hx
        have HX6 := Lib.hid hx6
        have HB6 := Lib.hid hb6'
        clear hx hx6 hb6 hb6' HO0 HPC hsl
        obtain ⟨ps, rest, bad⟩ := F
        cases bad with
        | false =>
          have HR6 : Hid (RdM w6 w5.heap.size (rb + 1) A2 n2 c2 rest false) := Lib.hid (HRD.out.below HB6.out)
          have hrl : rest.length < 4100 := by have := Fr.fr_rest_lt (l := zs.take at_) (by rw [HF0.out]); rw [HF0.out] at this; exact this
          have hn2 : n2 < 4100 := by have := HR6.out.len; omega
          have hcn := Fr.fr_count (rest ++ (zs.drop at_).take n0)
          rw [List.length_append, HPL.out] at hcn
          have hz5 : w5.heap.size ≤ w6.heap.size := Nat.le_trans HOFF.out.size HB6.out.size
          have HFD := Lib.hid (feed_v w6 w5.heap.size (rb + 1) A2 n2 c2 rest X6 n0 xc6 ((zs.drop at_).take n0) (Fr.frV (rest ++ (zs.drop at_).take n0)) rfl HR6.out HX6.out.arg hz5 (by omega) (by omega))
          have happ := Fr.fr_app (zs.take at_) ((zs.drop at_).take n0) (by rw [HF0.out])
          rw [← take_mid, HF0.out] at happ
          obtain ⟨F2, hF2⟩ : ∃ F2, Fr.frV (rest ++ (zs.drop at_).take n0) = F2 := ⟨_, rfl⟩
          rw [hF2] at HFD happ hcn
          have HAPP := Lib.hid happ
          have HCN := Lib.hid (And.intro hcn hrl)
          have HZ5 := Lib.hid hz5
          have HPAY6 := Lib.hid (HPAY.out.below HB6.out)
          have he0 : erV false = 0 := rfl
          clear hrl hn2 hcn hz5 happ hF2 HRD HX6
          simp only [he0]
          go_wp2_with (with_reducible refine (HFD.out).mono ?_)
          rintro e w7 ⟨PB, k2, kc2, rs2, A7, n7, c7, rfl, f2, f3, f4, f5, f6, f7⟩
          have hdA : ∀ y ∈ blkP BA rs, y ∉ (rb + 1) :: bkV A2 := fun y hy hs => by
            rcases List.mem_cons.1 hs with rfl | hs
            · have := (HPAY.out.lt _ hy).1; have := Z5.out; omega
            · exact HDIS.out y hs hy
          have HPAY7 := Lib.hid (HPAY6.out.off f5 hdA)
          have HF2 := Lib.hid f2
          have HF3 := Lib.hid f3
          have HF4 := Lib.hid f4
          have HF5 := Lib.hid f5
          have HF67 := Lib.hid (And.intro f6 f7)
          have hk1 : (bk + k2) * 24 ≤ 140737488355328 := by
            have h1 := HPAY.out.len
            have h2 := congrArg List.length HP0.out
            have h3 := f3.len
            have h4 := congrArg List.length f2
            have h5 := Fr.fr_count (zs.take at_)
            rw [HF0.out, List.length_take] at h5
            have h6 := HCN.out.1
            have h7 := HCN.out.2
            simp only [List.length_map] at h2 h4 h5
            omega
          have HK1 := Lib.hid hk1
          have HZ7 : Hid (w5.heap.size ≤ w7.heap.size) := Lib.hid (Nat.le_trans HZ5.out f5.size)
          have HSR := Lib.hid f3.src
          have HSN : Hid (PB = none → kc2 = 0) := Lib.hid f3.none_
          clear f2 f3 f4 f5 f6 f7 hdA hk1
          go_wp2_with (refine wpList_append_a Try.underlying46 hj hjz hj1 hj2 rfl rfl (.tmp 71) (.tmp 72) rfl rfl HPAY7.out.own PB k2 kc2 _ rfl HSR.out HSN.out (by omega) HK1.out HZ7.out ?_)
          intro B8 bc8 w8 o8 f8 g8
          have hlt6 : ∀ y ∈ blkP BA rs, y < w6.heap.size := fun y hy => (HPAY6.out.lt y hy).2
          have hpay8 := HPAY7.out.app HF3.out HZ5.out hlt6 o8 f8 g8
          have hA7lt : ∀ y ∈ bkV A7, w5.heap.size ≤ y ∧ y < w7.heap.size := fun y hy => HF4.out.own.lt y hy
          have hA7n : ∀ y ∈ bkV A7, y ∉ blkP BA rs := fun y hy hs => by
            rcases HF67.out.1 y hy with h | h
            · exact HDIS.out y h hs
            · have := hlt6 y hs; omega
          have hBA : ∀ y ∈ bkV BA, w5.heap.size ≤ y := fun y hy => (HPAY.out.lt y (List.mem_append.2 (.inl hy))).1
          have hz5r := Z5.out
          have HE : Hid (CuI w w5 (rb + 1) zs (at_ + n0) (.slice B8 (bk + k2) bc8) (.int .i64 (erV F2.2.2)) w8) := by
            refine Lib.hid ⟨B8, bk + k2, bc8, rs ++ rs2, A7, n7, c7, rfl, ?_, ?_, hpay8, ?_, ?_, ?_, ?_⟩
            · rw [HAPP.out]
            · rw [HAPP.out, List.map_append, HP0.out, HF2.out]
            · rw [HAPP.out]
              refine HF4.out.off f8 (fun hs => ?_) (fun y hy hs => hA7n y hy (List.mem_append.2 (.inl hs)))
              have := hBA _ hs; omega
            · intro y hy hs
              rcases blkP_app (P := fun _ => True) (fun y hy => (g8 y hy).imp id And.left) hs with h | h | h
              · exact hA7n y hy h
              · exact HF67.out.2 y hy (List.mem_append.2 (.inr h))
              · have := (hA7lt y hy).2; omega
            · refine ((HOFF.out.trans (Off.of_below HB6.out)).new HF5.out fun y hy => ?_).new f8 fun y hy => .inr (hBA y hy)
              rcases List.mem_cons.1 hy with rfl | hy
              · exact .inl (by simp)
              · exact .inr (HR6.out.own.lt y hy).1
            · have hw5 := B5.out.size
              refine ((HBEL.out.trans (HB6.out.mono HBEL.out.size)).trans (HF5.out.below (Nat.le_trans HBEL.out.size HB6.out.size) fun y hy => ?_)).trans (f8.below (by have := HZ7.out; omega) fun y hy => by have := hBA y hy; omega)
              rcases List.mem_cons.1 hy with rfl | hy
              · omega
              · have := (HR6.out.own.lt y hy).1; omega
          clear hlt6 hpay8 hA7lt hA7n hBA o8 f8 g8
          go_wp2
          go_roundw
          case rel => exact ⟨i + 1, at_ + n0, by push_cast; rfl, by push_cast; rfl, by omega, HLA.out.2, HLA.out.1, HE.out⟩
          case measure => simp [intOf]; omega
        | true =>
          have HR6 : Hid (RdM w6 w5.heap.size (rb + 1) A2 n2 c2 [] true) := Lib.hid (HRD.out.below HB6.out)
          have HFD := Lib.hid (feed_closed w6 (rb + 1) _ (.slice X6 n0 xc6) HR6.out.blk)
          have happ := Fr.fr_app_bad (zs.take at_) ((zs.drop at_).take n0) (by rw [HF0.out])
          rw [← take_mid, HF0.out] at happ
          have HAPP := Lib.hid happ
          have he0 : erV true = 12 := rfl
          clear happ HRD HX6
          simp only [he0]
          go_wp2_with (with_reducible refine (HFD.out).mono ?_)
          rintro e w7 ⟨rfl, hb7⟩
          have HB7 := Lib.hid (HB6.out.trans (hb7.mono HB6.out.size))
          have HE : Hid (CuI w w5 (rb + 1) zs (at_ + n0) (.slice BA bk bc) (.int .i64 12) w7) := by
            refine Lib.hid ⟨BA, bk, bc, rs, A2, n2, c2, rfl, ?_, ?_, HPAY.out.below HB7.out, ?_, HDIS.out, HOFF.out.trans (Off.of_below HB7.out), HBEL.out.trans (HB7.out.mono HBEL.out.size)⟩
            · rw [HAPP.out]; rfl
            · rw [HAPP.out, HP0.out]
            · rw [HAPP.out]; exact HR6.out.below hb7
          clear hb7
          go_wp2
          go_roundw
          case rel => exact ⟨i + 1, at_ + n0, by push_cast; rfl, by push_cast; rfl, by omega, HLA.out.2, HLA.out.1, HE.out⟩
          case measure => simp [intOf]; omega
    · obtain rfl : at_ = N := by omega
      have c1 : decide ((at_ : Int) < (at_ : Int)) = false := by simp
      obtain ⟨BA, bk, bc, rs, A2, n2, c2, rfl, rfl, hp, hpay, hrd, hdis, hoff, hbel⟩ := hI
      have ht : zs.take at_ = zs := List.take_of_length_le (by rw [HZL.out]; exact Nat.le_refl _)
      rw [ht] at hp hrd
      rw [ht]
      have g2 := G2.out
      have g3 := G3.out
      have g4 := G4.out
      have hz5 := Z5.out
      clear G2 G3 G4
      generalize Fr.frV zs = F at *
      have hpa := (g3.off hoff (fun y hy hs => by have := (g3.lt y hy).1; simp at hs; omega)).arg
      have hpb := hpay.arg
      rw [g2] at hpa
      rw [hp] at hpb
      have hr1 := g4.off hoff (by simp) (fun y hy hs => by have := (g4.own.lt y hy).1; simp at hs; omega)
      have hn12 : n1 = n2 := by have h1 := g4.len; have h2 := hrd.len; omega
      subst hn12
      have hpk : pk ≤ 140737488355328 := by
        have h1 := hpa.len
        have h2 := HFK2.out
        omega
      have HSL := Lib.hid (sameL_any wr PA BA pk pkc bk bc F.1 F.1 hpa hpb rfl hpk)
      have HR1 := Lib.hid hr1
      have HR2 := Lib.hid hrd
      have HBL := Lib.hid hbel
      clear hp hpay hrd hdis hoff hbel ht g2 g3 g4 hz5 hpa hpb hr1 hpk G7
      generalize erV F.2.2 = ev
      have hev : ((ev : Int) == ev) = true := by simp
      go_wp2_with fail
      with_reducible refine (HSL.out).mono ?_
      rintro e w8 ⟨rfl, t8, hw8⟩
      have R8 : Hid (BlkL w8 rb [.slice A1 n1 c1v, .bool F.2.2]) := by rw [hw8]; exact Lib.hid (HR1.out.blk.drewN t8)
      have R9 : Hid (BlkL w8 (rb + 1) [.slice A2 n1 c2, .bool F.2.2]) := by rw [hw8]; exact Lib.hid (HR2.out.blk.drewN t8)
      have B8 : Hid (Below w.heap.size w w8) := by rw [hw8]; exact Lib.hid (below_drewN HBL.out t8)
      clear hw8 HR1 HR2 HBL HSL
      have HW1 := Lib.hid (fwait_any w8 rb A1 n1 c1v _ R8.out)
      have HW2 := Lib.hid (fwait_any w8 (rb + 1) A2 n1 c2 _ R9.out)
      go_wp2_with fail
      with_reducible refine (HW1.out).mono ?_
      rintro e w9 ⟨rfl, rfl⟩
      go_wp2_with fail
      with_reducible refine (HW2.out).mono ?_
      rintro e w9 ⟨rfl, rfl⟩
      go_wp2
      go_ret
      exact ⟨rfl, B8.out⟩
end Go.Proofs.Ytlkkldegbopnpaa
