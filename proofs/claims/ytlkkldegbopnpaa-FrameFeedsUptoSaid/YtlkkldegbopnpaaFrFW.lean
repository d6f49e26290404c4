/- The law FrameFeeds: its walk. -/
import Derived.Test.YtlkkldegbopnpaaFrEM
namespace Go.Proofs.Ytlkkldegbopnpaa
open Go.RowKit
set_option maxRecDepth 100000
set_option linter.unusedVariables false
theorem mapVZ (l : List Nat) : (l.map (fun d : Nat => (d : Int))).map VZ = l.map V8 := by rw [List.map_map]; rfl
set_option maxHeartbeats 12800000 in
theorem frameFeeds_walk (A : Option Addr) (k c : Nat) (ps : List (List Nat)) (EA : Option Addr) (ne ec : Nat) (bs : Nat → Bool) (w : World) (hL : ArgL w w.heap.size A k c ps) (hps : totL ps ≤ 1048576) (hcc : c ≤ 1048576) (hE : ArgO w w.heap.size EA ne ec bs) :
    Calls Try.prog 7 #[.slice A k c, .slice EA ne ec] w fun e w' => e = .returned (.bool true) ∧ Below w.heap.size w w' := by
  obtain ⟨i0, hi, hz0, hz1, hz2⟩ := info_parts u8_info
  have hk : k ≤ 1048576 := Nat.le_trans hL.le hcc
  have HL := Lib.hid hL
  have HPS := Lib.hid hps
  have HE := Lib.hid hE
  clear hL hps hcc hE
  go_enter Try.func7, Try.ntmps7
  go_wp2_with (with_reducible refine (awake20_any w).mono ?_)
  rintro e w1 ⟨rfl, hb1⟩
  have HB1 := Lib.hid hb1
  clear hb1
  go_wp2_with (with_reducible refine (fnew_any w1).mono ?_)
  rintro e w2 ⟨rfl, rfl⟩
  have bel : Below w1.heap.size w1 ((w1.alloc (.cells #[.slice none 0 0, .bool false] 113)).alloc (.cells #[.slice none 0 0, .int .i64 0, .bool false] 52)) := ((Below.refl _ _).alloc (Nat.le_refl _) _).alloc (by simp) _
  have R1 := Lib.hid ((rdm_new w1).below ((Below.refl _ (w1.alloc (.cells #[.slice none 0 0, .bool false] 113))).alloc (Nat.le_refl _) (.cells #[.slice none 0 0, .int .i64 0, .bool false] 52)))
  have D1 : Hid (BlkL ((w1.alloc (.cells #[.slice none 0 0, .bool false] 113)).alloc (.cells #[.slice none 0 0, .int .i64 0, .bool false] 52)) (w1.heap.size + 1) [.slice none 0 0, .int .i64 0, .bool false]) := by
    have := BlkL.new (w1.alloc (.cells #[.slice none 0 0, .bool false] 113)) [.slice none 0 0, .int .i64 0, .bool false] 52
    rw [World.size_alloc] at this
    exact Lib.hid this
  have B2 := Lib.hid (HB1.out.trans (bel.mono HB1.out.size))
  have Z1 : Hid (w.heap.size ≤ w1.heap.size) := Lib.hid HB1.out.size
  clear bel HB1
  go_wp2_with fail
  generalize w1.heap.size = rb at *
  generalize (w1.alloc (.cells #[.slice none 0 0, .bool false] 113)).alloc (.cells #[.slice none 0 0, .int .i64 0, .bool false] 52) = w2 at *
  have hI0 : FfI w rb (rb + 1) ps 0 w2 := by
    refine ⟨false, none, 0, 0, none, 0, 0, [], 0, ⟨⟨R1.out.blk, ?_, ?_, by simp [bkV]⟩, ⟨D1.out, OwnV.nil _ _, by simp, by simp [bkV]⟩, fun _ => by rw [Fr.fr_nil]; exact ⟨rfl, rfl⟩, ⟨by omega, by simp [bkV], by simp [bkV], by simp [bkV]⟩, B2.out, Z1.out, Nat.le_succ_of_le Z1.out⟩, by simp⟩
    · rw [Fr.fr_nil]; exact OwnV.nil _ _
    · rw [Fr.fr_nil]; simp
  have HI0 := Lib.hid hI0
  clear hI0 R1 D1 B2 Z1
  generalize rb + 1 = db at *
  go_loopw [33] (fun iv wr => ∃ i : Nat, i ≤ 200 ∧ i ≤ k ∧ iv = .int .i64 (i : Int) ∧ FfI w rb db ps i wr) (fun iv _ => k - (intOf iv).toNat)
  case atStart => exact ⟨0, by omega, by omega, rfl, HI0.out⟩
  case round =>
    generalize wr = wo at *
    obtain ⟨i, hi2, hik, rfl, cl, RA, rn, rc, DA, dn, dc, xs, told, hfd, hxl⟩ := hrel
    clear HI0
    rcases Nat.lt_or_ge i k with hlt | hge
    · have hLr := HL.out.below hfd.b
      obtain ⟨b, off, rfl, _, hc⟩ := hLr.at_ (by omega)
      obtain ⟨KA, kn, kc, e0, a0⟩ := hc i hlt
      have hil : i < ps.length := by rw [HL.out.len]; exact hlt
      have htl := totL_succ hil
      have htle := totL_le ps (i + 1)
      rw [a0.len] at htl
      have hkn : totL (ps.take i) + kn ≤ 1048576 := by have := HPS.out; omega
      have HTL := Lib.hid htl
      generalize ps.getD i [] = zs at *
      have HFD := Lib.hid hfd
      have HXL := Lib.hid hxl
      have HP := Lib.hid a0
      have HKN := Lib.hid hkn
      have j0 : (0 : Int) ≤ (i : Int) := by omega
      have j1 : (i : Int) < (k : Int) := by omega
      clear hc hLr a0 hfd hxl htl htle hkn hil
      rcases Nat.lt_or_ge i 200 with h2 | h2
      · have d200 : ¬ (200 : Int) ≤ (i : Int) := by omega
        have hP0 : Arg wo wo.heap.size KA kn kc zs := HP.out.more HFD.out.b.size
        have HSP := Lib.hid (spare_any wo KA kn kc zs hP0 (by have := HKN.out; omega))
        clear hP0
        go_wp2_with fail
        with_reducible refine (HSP.out).mono ?_
        rintro e w1 ⟨F, fd, rfl, ho, hb⟩
        obtain ⟨g, rfl⟩ := ho.notnone (by omega)
        have hq := (ho.arg).take (k := kn) (by omega)
        have hzl := HP.out.len
        rw [← hzl, List.take_left, hzl] at hq
        have HQ := Lib.hid hq
        have hgl := ho.ownV.lt g (by simp [bkV])
        have HG := Lib.hid (And.intro hgl.1 hgl.2)
        have HO := Lib.hid ho
        have HB1 := Lib.hid hb
        have HEN := Lib.hid (fenc_any w1 _ _ kn fd zs hq (Nat.le_refl _))
        have HP1 := Lib.hid (HP.out.keep hb HFD.out.b.size)
        clear ho hb hq hgl HSP hzl
        go_wp2_with fail
        with_reducible refine (HEN.out).mono ?_
        rintro e w3 ⟨XA, xn, xc, rfl, hx, hb3⟩
        have HX := Lib.hid hx
        have HB3 := Lib.hid (HB1.out.trans (hb3.mono HB1.out.size))
        have HO3 := Lib.hid (HO.out.below hb3)
        have HQ3 := Lib.hid (HQ.out.below hb3)
        have hwb : w.heap.size ≤ w1.heap.size := Nat.le_trans HFD.out.b.size HB1.out.size
        have HP3 := Lib.hid (HP1.out.keep hb3 hwb)
        have HDE := Lib.hid (dfenc_any w3 _ _ kn kc zs HP3.out (Nat.le_trans hwb hb3.size))
        have HS13 : Hid (w1.heap.size ≤ w3.heap.size) := Lib.hid hb3.size
        have HG3 : Hid (g < w3.heap.size) := Lib.hid (Nat.lt_of_lt_of_le HG.out.2 hb3.size)
        clear hx hb3 hwb HEN HO HQ HP1 HB1
        go_wp2_with fail
        with_reducible refine (HDE.out).mono ?_
        rintro e w4 ⟨YA, yn, yc, rfl, hy, hb4⟩
        have HB4 := Lib.hid (HB3.out.trans (hb4.mono HB3.out.size))
        have HSB := Lib.hid (same_any w4 _ _ XA YA xn xc yn yc _ _ true (by simp) (HX.out.below hb4) hy)
        have HO4 := Lib.hid (HO3.out.below hb4)
        have HQ4 := Lib.hid ((HQ3.out.keep hb4 HS13.out).more (B' := w4.heap.size) (Nat.le_trans HS13.out hb4.size))
        have HP4 := Lib.hid (HP3.out.keep hb4 (Nat.le_trans HFD.out.b.size HB3.out.size))
        have hee : ((encE20 zs.length : Int) != encE20 zs.length) = false := by simp
        clear hy hb4 HB3 HX HO3 HQ3 HP3 HDE
        generalize encE20 zs.length = ev at *
        go_wp2_with fail
        with_reducible refine (HSB.out).mono ?_
        rintro e w5 ⟨rfl, t5, hw5⟩
        have HF5 : Hid (Fd w w5 rb db cl RA rn rc DA dn dc xs told) := by rw [hw5]; exact Lib.hid ((HFD.out.below HB4.out).drewN t5)
        have HO5 : Hid (OwnV w5 wo.heap.size (some ⟨g, 0, none⟩) (kn + 3) fd ((zs ++ marks).map V8)) := by rw [hw5]; exact Lib.hid (HO4.out.drewN t5).ownV
        have HQ5 : Hid (Arg w5 w5.heap.size (some ⟨g, 0, none⟩) kn fd zs) := by rw [hw5]; exact Lib.hid (HQ4.out.drewN t5)
        have HP5 : Hid (Arg w5 w.heap.size KA kn kc zs) := by rw [hw5]; exact Lib.hid (HP4.out.drewN t5)
        have HB5 : Hid (Below wo.heap.size wo w5) := by rw [hw5]; exact Lib.hid (below_drewN HB4.out t5)
        have HOM : Hid (∀ d ∈ zs ++ marks, d < 256) := Lib.hid HO4.out.2
        clear hw5 HB4 HO4 HQ4 HP4 HSB
        have HBF : Hid (∀ y ∈ blkF rb db RA DA, y < wo.heap.size) := Lib.hid fun y hy => (HFD.out.ltS y hy).2
        have hxn : dn ≤ 1048576 := by have h1 := HF5.out.d.len; have h2 := HXL.out; have h3 := HKN.out; omega
        have HXN := Lib.hid hxn
        clear hxn
        rcases Nat.eq_zero_or_pos kn with hk0 | hk0
        · subst hk0
          rcases Nat.lt_or_ge i ne with hen | hen
          · obtain ⟨eb, eo, rfl, _, hec⟩ := (HE.out.below (HFD.out.b.trans (HB5.out.mono HFD.out.b.size))).at_ (by omega)
            have ec0 := hec i hen
            have k1 : (i : Int) < (ne : Int) := by omega
            have k2 : decide (i < ne) = true := by simp; omega
            clear hec
            cases hbi : bs i with
            | true =>
              rw [hbi] at ec0
              have HEND := Lib.hid (fd_end w5 w.heap.size rb cl RA rn rc xs HF5.out.r)
              go_wp2_with fail
              with_reducible refine (HEND.out).mono ?_
              rintro e w6 ⟨A', n', c', rfl, f1, f2, f3⟩
              have hbo : ∀ y ∈ blkF rb db RA DA, y ∈ blkF rb db RA DA := fun y hy => hy
              have d6 : DdM w6 w.heap.size db DA dn dc xs told cl := HF5.out.d.off f2 (by simpa using fun e => HF5.out.dj.1 e.symm) (fun y hy hs => by simp at hs; subst hs; exact HF5.out.dj.2.1 hy)
              have HDN := Lib.hid (fd_dend w6 w.heap.size db cl DA dn dc xs told d6 (by have := HXN.out; omega))
              have HF1 := Lib.hid f1
              have HF2 := Lib.hid f2
              have HF3 := Lib.hid f3
              have hz1 : ((wtV cl xs : Int) != wtV cl xs) = false := by simp
              have hz2' : ((enE cl : Int) != enE cl) = false := by simp
              clear f1 f2 f3 d6 hbo
              go_wp2_with fail
              with_reducible refine (HDN.out).mono ?_
              rintro e w9 ⟨rfl, q1, q2⟩
              have hlw : w.heap.size ≤ wo.heap.size := HFD.out.b.size
              have HFT : Hid (Fd w w9 rb db true A' n' c' DA dn dc xs told) := by
                refine Lib.hid ⟨HF1.out.off q2 (by simpa using HF5.out.dj.1) (fun y hy hs => by simp at hs; subst hs; exact HF5.out.dj.2.2.1 (HF3.out _ hy)), q1, (fun h => by cases h), ⟨HF5.out.dj.1, HF5.out.dj.2.1, fun h => HF5.out.dj.2.2.1 (HF3.out _ h), fun y hy => HF5.out.dj.2.2.2 y (HF3.out y hy)⟩, ?_, HF5.out.lt⟩
                exact (HF5.out.b.trans (HF2.out.below HF5.out.b.size (by intro y hy; simp at hy; subst hy; exact HF5.out.lt.1))).trans (q2.below (Nat.le_trans HF5.out.b.size HF2.out.size) (by intro y hy; simp at hy; subst hy; exact HF5.out.lt.2))
              have hgF : ∀ y ∈ blkF rb db A' DA, y ∉ [g] := fun y hy hs => by
                simp at hs
                subst hs
                have h1 : y ∈ blkF rb db RA DA := by
                  unfold blkF at hy ⊢
                  rcases List.mem_cons.1 hy with e | hy
                  · simp [e]
                  rcases List.mem_cons.1 hy with e | hy
                  · simp [e]
                  rcases List.mem_append.1 hy with hy | hy
                  · have := HF3.out y hy; simp [this]
                  · simp [hy]
                have := HBF.out _ h1; have := HG.out.1; omega
              have HGF := Lib.hid hgF
              have HOT : Hid (OwnV w9 wo.heap.size (some ⟨g, 0, none⟩) 3 fd (((zs ++ marks).map (fun d : Nat => (d : Int))).map VZ)) := by
                have h1 : ∀ y ∈ blkF rb db RA DA, y ≠ g := fun y hy => by have := HBF.out _ hy; have := HG.out.1; omega
                have h2 := (HO5.out.off HF2.out (by intro y hy hs; simp [bkV] at hy hs; exact h1 rb (by simp [blkF]) (by omega))).off q2 (by intro y hy hs; simp [bkV] at hy hs; exact h1 db (by simp [blkF]) (by omega))
                exact Lib.hid (by rw [mapVZ]; exact h2)
              have HXT : Hid (xs.length ≤ totL (ps.take (i + 1))) := Lib.hid (by have := HXL.out; have := HTL.out; omega)
              have HDNb : Hid (dn ≤ 1048576) := HXN
              clear q1 q2 hgF hlw HF1 HF2 HF3 HDN HEND HQ5 HP5
              go_wp2_with fail
              go_loopw [159] (fun qv wx => ∃ q : Nat, q ≤ 3 ∧ qv = .int .i64 (q : Int) ∧ Off [g] w9 wx ∧ ∃ zz : List Int, OwnV wx wo.heap.size (some ⟨g, 0, none⟩) 3 fd (zz.map VZ)) (fun qv _ => 3 - (intOf qv).toNat)
              case atStart => exact ⟨0, by omega, rfl, Off.refl _ _, _, HOT.out⟩
              case round =>
                generalize wr = wx at *
                obtain ⟨q, hq, rfl, hqo, zz, hqz⟩ := hrel
                have h0b : 3 ≤ 1048579 := by have := HKN.out; omega
                rcases Nat.lt_or_ge q 3 with hql | hql
                · obtain ⟨b1, o1, hbb, hb1, hb2, hcc, hff⟩ := hqz.cell (by omega)
                  cases hbb
                  have hzl := hqz.len
                  rw [List.length_map] at hzl
                  have gc := hcc q (VZ zz[q]) (by rw [List.getElem?_map, List.getElem?_eq_getElem (by omega)]; rfl)
                  have gf := hff q hql
                  rw [Nat.zero_add] at gc gf
                  generalize zz[q] = z0 at gc
                  have HQZ := Lib.hid hqz
                  have HQO := Lib.hid hqo
                  have v0 : (0 : Int) ≤ (q : Int) := by omega
                  have v1 : (q : Int) < 3 := by omega
                  have v2 : (q : Int) < ((3 : Nat) : Int) := by omega
                  clear hqz hqo hcc hff hzl hb1
                  go_wp2
                  go_roundw
                  case rel => exact ⟨q + 1, by omega, by push_cast; rfl, HQO.out.setCell (p := ⟨g, q, none⟩) (by simp) _, zz.set q (bits .xor .u8 z0 5), by have := HQZ.out.set q (VZ (bits .xor .u8 z0 5)) hql; rw [Nat.zero_add] at this; rw [List.map_set]; exact this⟩
                  case measure => simp [intOf]; omega
                · obtain rfl : q = 3 := by omega
                  have v1 : ¬ ((3 : Nat) : Int) < 3 := by omega
                  have hft := HFT.out.off hqo (by intro y hy; simp at hy; subst hy; exact Nat.le_trans HFD.out.b.size HG.out.1) HGF.out
                  have HW1 := Lib.hid (fd_wait wx w.heap.size rb true A' n' c' xs hft.r)
                  have HW2 := Lib.hid (fd_dwait wx w.heap.size db true DA dn dc xs told hft.d (by have := HDNb.out; omega))
                  have HFT2 := Lib.hid hft
                  have hz3 : ((wtV true xs : Int) != wtV true xs) = false := by simp
                  clear hqz hqo hft
                  go_wp2_with fail
                  with_reducible refine (HW1.out).mono ?_
                  rintro e wy ⟨rfl, rfl⟩
                  go_wp2_with fail
                  with_reducible refine (HW2.out).mono ?_
                  rintro e wy ⟨rfl, hby⟩
                  have HNX : Hid (FfI w rb db ps (i + 1) wy) := Lib.hid ⟨true, A', n', c', DA, dn, dc, xs, told, HFT2.out.below hby, HXT.out⟩
                  clear hby
                  go_wp2
                  go_roundw
                  case rel => exact ⟨i + 1, by omega, by omega, by push_cast; rfl, HNX.out⟩
                  case measure => simp [intOf]; omega
            | false =>
              rw [hbi] at ec0
              have HFE := Lib.hid (fd_feed w w5 rb db cl RA rn rc DA dn dc xs told (some ⟨g, 0, none⟩) 0 fd zs HF5.out HQ5.out (by have := HKN.out; omega))
              obtain ⟨FF, hFF⟩ : ∃ FF, Fr.frV (xs ++ zs) = FF := ⟨_, rfl⟩
              go_wp2_with fail
              with_reducible refine (HFE.out).mono ?_
              rintro e w6 ⟨PA, pk, pkc, rs, A', n', c', rfl, f1, f2, f3, f4, f5, f6, f7, f8⟩
              have hs5 := HF5.out.b.size
              have hwo := HFD.out.b.size
              have hs56 := f7.size
              have b56 : Below w.heap.size w5 w6 := f7.below hs5 fun y hy => (HF5.out.ltS y (by unfold blkF; rcases List.mem_cons.1 hy with rfl | hy <;> simp [*])).1
              have HDF := Lib.hid (fd_dfeed w w6 db cl DA dn dc xs told KA 0 kc zs f4 HF5.out.op (Nat.le_trans hs5 hs56) ((HP5.out.below b56).more (Nat.le_trans hs5 hs56)) (by have := HXN.out; have := HKN.out; omega))
              have HF1 := Lib.hid f1
              have HF2 := Lib.hid f2
              have HF3 := Lib.hid f3
              have HF57 := Lib.hid (And.intro f5 (And.intro f6 (And.intro f7 f8)))
              have HP6 := Lib.hid (HP5.out.below b56)
              have HB56 := Lib.hid b56
              have hfe : ((feE cl (Fr.frV (xs ++ zs)).2.2 : Int) != feE cl (Fr.frV (xs ++ zs)).2.2) = false := by simp
              have hpkb : pk ≤ 1048576 := by
                have h1 := f2.len
                have h2 := congrArg List.length f1
                have h3 := Fr.fr_count (xs ++ zs)
                have h4 := HF5.out.d.len
                have h5 := HP5.out.len
                have h6 := HXN.out
                have h7 := HKN.out
                rw [List.length_append] at h3
                rw [List.length_map, h1] at h2
                have h8 : (if cl = true then [] else (Fr.frV (xs ++ zs)).1.drop told).length ≤ (Fr.frV (xs ++ zs)).1.length := by
                  cases cl <;> simp
                have h9 := HXL.out
                omega
              have HPK := Lib.hid hpkb
              clear f1 f2 f3 f4 f5 f6 f7 f8 hs5 hs56 b56 hpkb hFF HFE HQ5 hwo
              go_wp2_with fail
              with_reducible refine (HDF.out).mono ?_
              rintro e w7 ⟨LA, lk, lkc, M', m', d', rfl, q1, q2, q3, q4⟩
              have hjn := fd_join HF5.out rfl HF3.out HF57.out.1 HF57.out.2.2.1 q2 q3 q4
              have hs5 := HF5.out.b.size
              have hs56 := HF57.out.2.2.1.size
              have hwo5 := HB5.out.size
              have hg5 : g < w5.heap.size := (HO5.out.lt g (by simp [bkV])).2
              have hDA : ∀ y ∈ db :: bkV DA, y < wo.heap.size := fun y hy => HBF.out y (by unfold blkF; rcases List.mem_cons.1 hy with rfl | hy <;> simp [*])
              have hRA : ∀ y ∈ rb :: bkV RA, y < wo.heap.size := fun y hy => HBF.out y (by unfold blkF; rcases List.mem_cons.1 hy with rfl | hy <;> simp [*])
              have hpay := HF2.out.off q3 (fun y hy hs => by have := (HF2.out.lt y hy).1; have := hDA y hs; omega)
              have hful := (HO5.out.off HF57.out.2.2.1 (by intro y hy hs; simp [bkV] at hy; subst hy; have := hRA _ hs; have := HG.out.1; omega)).off q3 (by intro y hy hs; simp [bkV] at hy; subst hy; have := hDA _ hs; have := HG.out.1; omega)
              have hp7 := (HP6.out.below (q3.below (Nat.le_trans hs5 hs56) (fun y hy => (HF5.out.ltS y (by unfold blkF; rcases List.mem_cons.1 hy with rfl | hy <;> simp [*])).1)))
              have HSL := Lib.hid (sameL_any w7 PA LA pk pkc lk lkc _ _ hpay.arg q1 HF1.out (by have := HPK.out; omega))
              have hblk : ∀ y ∈ blkF rb db A' M', y ≠ g ∧ y ∉ blkP PA rs := by
                intro y hy
                unfold blkF at hy
                have hpl : ∀ z ∈ blkP PA rs, w5.heap.size ≤ z ∧ z < w6.heap.size := fun z hz => HF2.out.lt z hz
                rcases List.mem_cons.1 hy with rfl | hy
                · have := hRA y (by simp); exact ⟨by have := HG.out.1; omega, fun hz => by have := (hpl _ hz).1; omega⟩
                rcases List.mem_cons.1 hy with rfl | hy
                · have := hDA y (by simp); exact ⟨by have := HG.out.1; omega, fun hz => by have := (hpl _ hz).1; omega⟩
                rcases List.mem_append.1 hy with hy | hy
                · refine ⟨?_, HF57.out.2.1 y hy⟩
                  rcases HF57.out.2.2.2 y hy with h | h
                  · have := hRA y (by simp [h]); have := HG.out.1; omega
                  · omega
                · rcases q4 y hy with h | h
                  · have := hDA y (by simp [h]); exact ⟨by have := HG.out.1; omega, fun hz => by have := (hpl _ hz).1; omega⟩
                  · exact ⟨by omega, fun hz => by have := (hpl _ hz).2; omega⟩
              have HBLK := Lib.hid hblk
              have HJN := Lib.hid hjn
              have HPAY := Lib.hid hpay
              have HFUL := Lib.hid hful
              have HP7 := Lib.hid hp7
              have HBL : Hid (∀ y ∈ blkP PA rs, w.heap.size ≤ y) := Lib.hid fun y hy => by have := (HF2.out.lt y hy).1; omega
              have HGT : Hid (∀ y ∈ blkP PA rs, y ≠ g) := Lib.hid fun y hy e => by have := (HF2.out.lt y hy).1; omega
              clear q1 q2 q3 q4 hjn hs5 hs56 hwo5 hg5 hDA hRA hpay hful hp7 hblk HDF HP5 HP6 HF3 HF57 HB56
              go_wp2_with fail
              with_reducible refine (HSL.out).mono ?_
              rintro e w8 ⟨rfl, t8, hw8⟩
              have HKE : Hid (Calls Try.prog 20 #[.slice (some ⟨g, 0, none⟩) 3 fd, .slice KA 0 kc] w8 (SameEnd w8 true)) := by
                rw [hw8]
                exact Lib.hid (kept_any _ w7.heap.size w.heap.size (some ⟨g, 0, none⟩) KA 0 kc fd zs ((HFUL.out.arg HOM.out (fun y hy => (HFUL.out.lt y hy).2)).drewN t8) (HP7.out.drewN t8))
              have HW8 := Lib.hid hw8
              clear hw8
              go_wp2_with fail
              with_reducible refine (HKE.out).mono ?_
              rintro e w9 ⟨rfl, t9, hw9⟩
              have hw97 : w9 = w7.drewN (t8 + t9) := by rw [hw9, HW8.out]; exact World.drewN_drewN _ _ _
              have HFT0 : Hid (Fd w w9 rb db (cl || (Fr.frV (xs ++ zs)).2.2) A' n' c' M' m' d' (if cl then xs else xs ++ zs) (if cl then told else (Fr.frV (xs ++ zs)).1.length)) := by rw [hw97]; exact Lib.hid (HJN.out.drewN _)
              have HOT0 : Hid (OwnV w9 wo.heap.size (some ⟨g, 0, none⟩) 3 fd (((zs ++ marks).map (fun d : Nat => (d : Int))).map VZ)) := by rw [hw97, mapVZ]; exact Lib.hid (HFUL.out.below (below_drewN (Below.refl _ _) _))
              have HPZ0 : Hid (PayZ w9 w5.heap.size PA pk pkc (rs.map fun r => ⟨r.b, 0, r.n, r.c⟩)) := by rw [hw97]; exact Lib.hid (HPAY.out.below (below_drewN (Below.refl _ _) _)).z
              have HRN : Hid (∀ (i : Nat) (r : RowZ), (rs.map fun r => (⟨r.b, 0, r.n, r.c⟩ : RowZ))[i]? = some r → r.n ≤ 4096 ∧ r.b ∈ blkP PA rs) := by
                refine Lib.hid fun i r hr => ?_
                rw [List.getElem?_map] at hr
                cases hq : rs[i]? with
                | none => rw [hq] at hr; cases hr
                | some q =>
                  rw [hq] at hr
                  have hr : r = ⟨q.b, 0, q.n, q.c⟩ := by simpa using hr.symm
                  subst hr
                  have hm := List.mem_of_getElem? hq
                  refine ⟨?_, List.mem_append.2 (.inr (List.mem_map.2 ⟨q, hm, rfl⟩))⟩
                  have hp : q.p ∈ rs.map (·.p) := List.mem_map.2 ⟨q, hm, rfl⟩
                  rw [HF1.out] at hp
                  have hl : q.p.length = q.n := (HF2.out.row q hm).len
                  show q.n ≤ 4096
                  rw [← hl]
                  cases cl with
                  | true => simp at hp
                  | false => exact (Fr.fr_mem (xs ++ zs) q.p (List.mem_of_mem_drop hp)).2.1
              have HXT : Hid ((if cl then xs else xs ++ zs).length ≤ totL (ps.take (i + 1))) := Lib.hid (by
                have h1 := HXL.out
                have h2 := HTL.out
                have h3 := HP.out.len
                cases cl
                · simp only [Bool.false_eq_true, if_false, List.length_append]; omega
                · simp only [if_true]; omega)
              have HDNb : Hid (m' ≤ 1048576) := Lib.hid (by
                have h1 := HFT0.out.d.len
                have h2 := HXT.out
                have h3 := totL_le ps (i + 1)
                have h4 := HPS.out
                omega)
              clear hw9 hw97 HKE HSL HJN HPAY HFUL HP7 HF1 HF2 HW8
              go_wp2_with fail
              go_loopw [126] (fun jv wx => ∃ j : Nat, j ≤ pk ∧ jv = .int .i64 (j : Int) ∧ Off (blkP PA rs) w9 wx ∧ ∃ rz : List RowZ, PayZ wx w5.heap.size PA pk pkc rz ∧ ∀ (i : Nat) (r : RowZ), rz[i]? = some r → (j ≤ i → r.n ≤ 4096) ∧ (r.b ∈ blkP PA rs ∨ w9.heap.size ≤ r.b)) (fun jv _ => pk - (intOf jv).toNat)
              case atStart => exact ⟨0, by omega, rfl, Off.refl _ _, _, HPZ0.out, fun i r hr => ⟨fun _ => (HRN.out i r hr).1, .inl (HRN.out i r hr).2⟩⟩
              case round =>
                generalize wr = wx at *
                obtain ⟨j, hj, rfl, hjo, rz, hjz, hjr⟩ := hrel
                rcases Nat.lt_or_ge j pk with hjl | hjl
                · obtain ⟨r, pb, po, hr, rfl, hb1, hb2, hcc, hff⟩ := hjz.at_ hjl
                  obtain ⟨zz0, hz0⟩ := hjz.row j r hr
                  have hrp : r.b ≠ pb := fun e => hjz.ne j r hr (by simp [bkV, e])
                  have hrn := (hjr j r hr).1 (Nat.le_refl _)
                  have u0 : (0 : Int) ≤ (j : Int) := by omega
                  have u1 : (j : Int) < (pk : Int) := by omega
                  have HJZ := Lib.hid hjz
                  have HJO := Lib.hid hjo
                  have HJR := Lib.hid hjr
                  have HR := Lib.hid hr
                  have HZ0 := Lib.hid hz0
                  have HHF := Lib.hid hff
                  have HHC := Lib.hid hcc
                  have hpj := HPK.out
                  clear hjz hjo hjr hr hz0 hff hb1
                  go_wp2_with fail
                  go_loopw [134] (fun qv wy => ∃ q : Nat, q ≤ r.n ∧ qv = .int .i64 (q : Int) ∧ Off [r.b] wx wy ∧ ∃ zz : List Int, OwnV wy w5.heap.size (some ⟨r.b, r.o, none⟩) r.n r.c (zz.map VZ)) (fun qv _ => r.n - (intOf qv).toNat)
                  case atStart => exact ⟨0, by omega, rfl, Off.refl _ _, _, HZ0.out⟩
                  case round =>
                    generalize wr = wy at *
                    obtain ⟨q, hq, rfl, hqo, zz, hqz⟩ := hrel
                    have hcy := (hqo.cell (p := ⟨pb, po + j, none⟩) hb2 (by simp; omega)).trans HHC.out
                    have hfy := (hqo.frozen (p := ⟨pb, po + j, none⟩) hb2 (by simp; omega)).trans HHF.out
                    have hly : pb < wy.heap.size := Nat.lt_of_lt_of_le hb2 hqo.size
                    clear hcc
                    rcases Nat.lt_or_ge q r.n with hql | hql
                    · obtain ⟨b1, o1, hbb, hb3, hb4, hc1, hf1⟩ := hqz.cell (by omega)
                      cases hbb
                      have hzl := hqz.len
                      rw [List.length_map] at hzl
                      have gc := hc1 q (VZ zz[q]) (by rw [List.getElem?_map, List.getElem?_eq_getElem (by omega)]; rfl)
                      have gf := hf1 q hql
                      generalize zz[q] = z0 at gc
                      have HQZ := Lib.hid hqz
                      have HQO := Lib.hid hqo
                      have v0 : (0 : Int) ≤ (q : Int) := by omega
                      have v1 : (q : Int) < (r.n : Int) := by omega
                      clear hqz hqo hc1 hf1 hzl hb3
                      go_wp2
                      go_roundw
                      case rel => exact ⟨q + 1, by omega, by push_cast; rfl, HQO.out.setCell (p := ⟨r.b, r.o + q, none⟩) (by simp) _, zz.set q (bits .xor .u8 z0 1), by have := HQZ.out.set q (VZ (bits .xor .u8 z0 1)) hql; rw [List.map_set]; exact this⟩
                      case measure => simp [intOf]; omega
                    · obtain rfl : q = r.n := by omega
                      have v1 : ¬ (r.n : Int) < (r.n : Int) := by omega
                      have bel : Below wy.heap.size wy (wy.alloc (.cells #[.int .u8 9, .int .u8 9] 5)) := (Below.refl _ _).alloc (Nat.le_refl _) _
                      have bl : BlkL (wy.alloc (.cells #[.int .u8 9, .int .u8 9] 5)) wy.heap.size [.int .u8 9, .int .u8 9] := BlkL.new wy [.int .u8 9, .int .u8 9] _
                      have SRC : Hid (SrcV (wy.alloc (.cells #[.int .u8 9, .int .u8 9] 5)) (some ⟨wy.heap.size, 0, none⟩) 2 [.int .u8 9, .int .u8 9]) :=
                        Lib.hid ⟨rfl, (fun e => by cases e), fun ad e j u hu => by cases e; rw [add_litV, Nat.zero_add]; exact bl.cell j u hu, by simp [Value.oneCell']⟩
                      have HOW := Lib.hid (hqz.below bel)
                      have HQO := Lib.hid hqo
                      have HBE := Lib.hid bel
                      have hw5 : w5.heap.size ≤ (wy.alloc (.cells #[.int .u8 9, .int .u8 9] 5)).heap.size := by have := (hqz.lt r.b (by simp [bkV])); simp; omega
                      have HW5 := Lib.hid hw5
                      have hlz : pb < (wy.alloc (.cells #[.int .u8 9, .int .u8 9] 5)).heap.size := by simp; omega
                      have HFY := Lib.hid hfy
                      have HCY := Lib.hid hcy
                      clear hqz hqo bel bl hw5 hfy
                      go_wp2_with (refine wpList_append_a Try.underlying22 hi hz0 hz1 hz2 rfl rfl (.tmp 152) (.tmp 153) rfl rfl HOW.out (some ⟨wy.heap.size, 0, none⟩) 2 2 _ rfl SRC.out (fun e => by cases e) (by omega) (by omega) HW5.out ?_)
                      intro A8 c8 w8 o8 f8 g8
                      obtain ⟨b8, o8', rfl, hb5, hb6, _, _⟩ := o8.cell (by omega)
                      have hofx : Off [r.b] wx w8 := ((HQO.out.trans (Off.of_below HBE.out)).trans (f8.mono (by intro y hy; simpa [bkV] using hy)))
                      have h8b : b8 = r.b ∨ wx.heap.size ≤ b8 := by
                        rcases g8 b8 (by simp [bkV]) with h | ⟨h, _⟩
                        · simp [bkV] at h; exact .inl h
                        · have := HQO.out.size; exact .inr (by omega)
                      have hupd := HJZ.out.upd (r' := ⟨b8, o8', r.n + 2, c8⟩) hjl HR.out hofx ⟨zz ++ [9, 9], by rw [List.map_append]; exact o8⟩ h8b
                      have c8x := (hofx.cell (p := ⟨pb, po + j, none⟩) hb2 (by simp; omega)).trans HHC.out
                      have f8x := (hofx.frozen (p := ⟨pb, po + j, none⟩) hb2 (by simp; omega)).trans HHF.out
                      have l8x : pb < w8.heap.size := Nat.lt_of_lt_of_le hb2 hofx.size
                      have HNX : Hid (Off (blkP (some ⟨pb, po, none⟩) rs) w9 (w8.setCell ⟨pb, po + j, none⟩ (.slice (some ⟨b8, o8', none⟩) (r.n + 2) c8))) := by
                        refine Lib.hid ((HJO.out.new hofx fun y hy => ?_).setCell (p := ⟨pb, po + j, none⟩) (List.mem_append.2 (.inl (by simp [bkV]))) _)
                        simp at hy
                        subst hy
                        exact (HJR.out j r HR.out).2
                      have HNR : Hid (∀ (i : Nat) (q : RowZ), (rz.set j ⟨b8, o8', r.n + 2, c8⟩)[i]? = some q → (j + 1 ≤ i → q.n ≤ 4096) ∧ (q.b ∈ blkP (some ⟨pb, po, none⟩) rs ∨ w9.heap.size ≤ q.b)) := by
                        refine Lib.hid fun i q hq => ?_
                        rw [List.getElem?_set] at hq
                        by_cases e : j = i
                        · subst e
                          rw [if_pos rfl] at hq
                          split at hq
                          · have hq : q = ⟨b8, o8', r.n + 2, c8⟩ := by simpa using hq.symm
                            subst hq
                            refine ⟨fun h => by omega, ?_⟩
                            rcases h8b with h | h
                            · show b8 ∈ _ ∨ _
                              rw [h]; exact (HJR.out j r HR.out).2
                            · exact .inr (Nat.le_trans HJO.out.size h)
                          · cases hq
                        · rw [if_neg e] at hq
                          exact ⟨fun h => (HJR.out i q hq).1 (by omega), (HJR.out i q hq).2⟩
                      have HUP := Lib.hid hupd
                      clear hupd hofx o8 f8 g8 h8b hcy hlz hly
                      go_wp2
                      go_roundw
                      case rel => exact ⟨j + 1, by omega, by push_cast; rfl, HNX.out, _, HUP.out, HNR.out⟩
                      case measure => simp [intOf]; omega
                · obtain rfl : j = pk := by omega
                  have v3 : ¬ (j : Int) < (j : Int) := by omega
                  have HFT := Lib.hid (HFT0.out.off hjo HBL.out (fun y hy => (HBLK.out y hy).2))
                  have HOT := Lib.hid (HOT0.out.off hjo (by intro y hy hs; simp [bkV] at hy; subst hy; exact HGT.out _ hs rfl))
                  have HGF : Hid (∀ y ∈ blkF rb db A' M', y ∉ [g]) := Lib.hid fun y hy hs => by simp at hs; exact (HBLK.out y hy).1 hs
                  clear hjo hjz hjr HFT0 HOT0
                  generalize wx = w9 at *
                  generalize (cl || (Fr.frV (xs ++ zs)).2.2) = cl2 at HFT
                  generalize (if cl = true then told else (Fr.frV (xs ++ zs)).1.length) = told2 at HFT
                  generalize (if cl = true then xs else xs ++ zs) = xs2 at HFT HXT
                  go_wp2_with fail
                  go_loopw [159] (fun qv wx => ∃ q : Nat, q ≤ 3 ∧ qv = .int .i64 (q : Int) ∧ Off [g] w9 wx ∧ ∃ zz : List Int, OwnV wx wo.heap.size (some ⟨g, 0, none⟩) 3 fd (zz.map VZ)) (fun qv _ => 3 - (intOf qv).toNat)
                  case atStart => exact ⟨0, by omega, rfl, Off.refl _ _, _, HOT.out⟩
                  case round =>
                    generalize wr = wx at *
                    obtain ⟨q, hq, rfl, hqo, zz, hqz⟩ := hrel
                    have h0b : 3 ≤ 1048579 := by have := HKN.out; omega
                    rcases Nat.lt_or_ge q 3 with hql | hql
                    · obtain ⟨b1, o1, hbb, hb1, hb2, hcc, hff⟩ := hqz.cell (by omega)
                      cases hbb
                      have hzl := hqz.len
                      rw [List.length_map] at hzl
                      have gc := hcc q (VZ zz[q]) (by rw [List.getElem?_map, List.getElem?_eq_getElem (by omega)]; rfl)
                      have gf := hff q hql
                      rw [Nat.zero_add] at gc gf
                      generalize zz[q] = z0 at gc
                      have HQZ := Lib.hid hqz
                      have HQO := Lib.hid hqo
                      have v0 : (0 : Int) ≤ (q : Int) := by omega
                      have v1 : (q : Int) < 3 := by omega
                      have v2 : (q : Int) < ((3 : Nat) : Int) := by omega
                      clear hqz hqo hcc hff hzl hb1
                      go_wp2
                      go_roundw
                      case rel => exact ⟨q + 1, by omega, by push_cast; rfl, HQO.out.setCell (p := ⟨g, q, none⟩) (by simp) _, zz.set q (bits .xor .u8 z0 5), by have := HQZ.out.set q (VZ (bits .xor .u8 z0 5)) hql; rw [Nat.zero_add] at this; rw [List.map_set]; exact this⟩
                      case measure => simp [intOf]; omega
                    · obtain rfl : q = 3 := by omega
                      have v1 : ¬ ((3 : Nat) : Int) < 3 := by omega
                      have hft := HFT.out.off hqo (by intro y hy; simp at hy; subst hy; exact Nat.le_trans HFD.out.b.size HG.out.1) HGF.out
                      have HW1 := Lib.hid (fd_wait wx w.heap.size rb cl2 A' n' c' xs2 hft.r)
                      have HW2 := Lib.hid (fd_dwait wx w.heap.size db cl2 M' m' d' xs2 told2 hft.d (by have := HDNb.out; omega))
                      have HFT2 := Lib.hid hft
                      have hz3 : ((wtV cl2 xs2 : Int) != wtV cl2 xs2) = false := by simp
                      clear hqz hqo hft
                      go_wp2_with fail
                      with_reducible refine (HW1.out).mono ?_
                      rintro e wy ⟨rfl, rfl⟩
                      go_wp2_with fail
                      with_reducible refine (HW2.out).mono ?_
                      rintro e wy ⟨rfl, hby⟩
                      have HNX : Hid (FfI w rb db ps (i + 1) wy) := Lib.hid ⟨cl2, A', n', c', M', m', d', xs2, told2, HFT2.out.below hby, HXT.out⟩
                      clear hby
                      go_wp2
                      go_roundw
                      case rel => exact ⟨i + 1, by omega, by omega, by push_cast; rfl, HNX.out⟩
                      case measure => simp [intOf]; omega
          · have k1 : ¬ (i : Int) < (ne : Int) := by omega
            have k2 : decide (i < ne) = false := by simp; omega
            have HFE := Lib.hid (fd_feed w w5 rb db cl RA rn rc DA dn dc xs told (some ⟨g, 0, none⟩) 0 fd zs HF5.out HQ5.out (by have := HKN.out; omega))
            obtain ⟨FF, hFF⟩ : ∃ FF, Fr.frV (xs ++ zs) = FF := ⟨_, rfl⟩
            go_wp2_with fail
            with_reducible refine (HFE.out).mono ?_
            rintro e w6 ⟨PA, pk, pkc, rs, A', n', c', rfl, f1, f2, f3, f4, f5, f6, f7, f8⟩
            have hs5 := HF5.out.b.size
            have hwo := HFD.out.b.size
            have hs56 := f7.size
            have b56 : Below w.heap.size w5 w6 := f7.below hs5 fun y hy => (HF5.out.ltS y (by unfold blkF; rcases List.mem_cons.1 hy with rfl | hy <;> simp [*])).1
            have HDF := Lib.hid (fd_dfeed w w6 db cl DA dn dc xs told KA 0 kc zs f4 HF5.out.op (Nat.le_trans hs5 hs56) ((HP5.out.below b56).more (Nat.le_trans hs5 hs56)) (by have := HXN.out; have := HKN.out; omega))
            have HF1 := Lib.hid f1
            have HF2 := Lib.hid f2
            have HF3 := Lib.hid f3
            have HF57 := Lib.hid (And.intro f5 (And.intro f6 (And.intro f7 f8)))
            have HP6 := Lib.hid (HP5.out.below b56)
            have HB56 := Lib.hid b56
            have hfe : ((feE cl (Fr.frV (xs ++ zs)).2.2 : Int) != feE cl (Fr.frV (xs ++ zs)).2.2) = false := by simp
            have hpkb : pk ≤ 1048576 := by
              have h1 := f2.len
              have h2 := congrArg List.length f1
              have h3 := Fr.fr_count (xs ++ zs)
              have h4 := HF5.out.d.len
              have h5 := HP5.out.len
              have h6 := HXN.out
              have h7 := HKN.out
              rw [List.length_append] at h3
              rw [List.length_map, h1] at h2
              have h8 : (if cl = true then [] else (Fr.frV (xs ++ zs)).1.drop told).length ≤ (Fr.frV (xs ++ zs)).1.length := by
                cases cl <;> simp
              have h9 := HXL.out
              omega
            have HPK := Lib.hid hpkb
            clear f1 f2 f3 f4 f5 f6 f7 f8 hs5 hs56 b56 hpkb hFF HFE HQ5 hwo
            go_wp2_with fail
            with_reducible refine (HDF.out).mono ?_
            rintro e w7 ⟨LA, lk, lkc, M', m', d', rfl, q1, q2, q3, q4⟩
            have hjn := fd_join HF5.out rfl HF3.out HF57.out.1 HF57.out.2.2.1 q2 q3 q4
            have hs5 := HF5.out.b.size
            have hs56 := HF57.out.2.2.1.size
            have hwo5 := HB5.out.size
            have hg5 : g < w5.heap.size := (HO5.out.lt g (by simp [bkV])).2
            have hDA : ∀ y ∈ db :: bkV DA, y < wo.heap.size := fun y hy => HBF.out y (by unfold blkF; rcases List.mem_cons.1 hy with rfl | hy <;> simp [*])
            have hRA : ∀ y ∈ rb :: bkV RA, y < wo.heap.size := fun y hy => HBF.out y (by unfold blkF; rcases List.mem_cons.1 hy with rfl | hy <;> simp [*])
            have hpay := HF2.out.off q3 (fun y hy hs => by have := (HF2.out.lt y hy).1; have := hDA y hs; omega)
            have hful := (HO5.out.off HF57.out.2.2.1 (by intro y hy hs; simp [bkV] at hy; subst hy; have := hRA _ hs; have := HG.out.1; omega)).off q3 (by intro y hy hs; simp [bkV] at hy; subst hy; have := hDA _ hs; have := HG.out.1; omega)
            have hp7 := (HP6.out.below (q3.below (Nat.le_trans hs5 hs56) (fun y hy => (HF5.out.ltS y (by unfold blkF; rcases List.mem_cons.1 hy with rfl | hy <;> simp [*])).1)))
            have HSL := Lib.hid (sameL_any w7 PA LA pk pkc lk lkc _ _ hpay.arg q1 HF1.out (by have := HPK.out; omega))
            have hblk : ∀ y ∈ blkF rb db A' M', y ≠ g ∧ y ∉ blkP PA rs := by
              intro y hy
              unfold blkF at hy
              have hpl : ∀ z ∈ blkP PA rs, w5.heap.size ≤ z ∧ z < w6.heap.size := fun z hz => HF2.out.lt z hz
              rcases List.mem_cons.1 hy with rfl | hy
              · have := hRA y (by simp); exact ⟨by have := HG.out.1; omega, fun hz => by have := (hpl _ hz).1; omega⟩
              rcases List.mem_cons.1 hy with rfl | hy
              · have := hDA y (by simp); exact ⟨by have := HG.out.1; omega, fun hz => by have := (hpl _ hz).1; omega⟩
              rcases List.mem_append.1 hy with hy | hy
              · refine ⟨?_, HF57.out.2.1 y hy⟩
                rcases HF57.out.2.2.2 y hy with h | h
                · have := hRA y (by simp [h]); have := HG.out.1; omega
                · omega
              · rcases q4 y hy with h | h
                · have := hDA y (by simp [h]); exact ⟨by have := HG.out.1; omega, fun hz => by have := (hpl _ hz).1; omega⟩
                · exact ⟨by omega, fun hz => by have := (hpl _ hz).2; omega⟩
            have HBLK := Lib.hid hblk
            have HJN := Lib.hid hjn
            have HPAY := Lib.hid hpay
            have HFUL := Lib.hid hful
            have HP7 := Lib.hid hp7
            have HBL : Hid (∀ y ∈ blkP PA rs, w.heap.size ≤ y) := Lib.hid fun y hy => by have := (HF2.out.lt y hy).1; omega
            have HGT : Hid (∀ y ∈ blkP PA rs, y ≠ g) := Lib.hid fun y hy e => by have := (HF2.out.lt y hy).1; omega
            clear q1 q2 q3 q4 hjn hs5 hs56 hwo5 hg5 hDA hRA hpay hful hp7 hblk HDF HP5 HP6 HF3 HF57 HB56
            go_wp2_with fail
            with_reducible refine (HSL.out).mono ?_
            rintro e w8 ⟨rfl, t8, hw8⟩
            have HKE : Hid (Calls Try.prog 20 #[.slice (some ⟨g, 0, none⟩) 3 fd, .slice KA 0 kc] w8 (SameEnd w8 true)) := by
              rw [hw8]
              exact Lib.hid (kept_any _ w7.heap.size w.heap.size (some ⟨g, 0, none⟩) KA 0 kc fd zs ((HFUL.out.arg HOM.out (fun y hy => (HFUL.out.lt y hy).2)).drewN t8) (HP7.out.drewN t8))
            have HW8 := Lib.hid hw8
            clear hw8
            go_wp2_with fail
            with_reducible refine (HKE.out).mono ?_
            rintro e w9 ⟨rfl, t9, hw9⟩
            have hw97 : w9 = w7.drewN (t8 + t9) := by rw [hw9, HW8.out]; exact World.drewN_drewN _ _ _
            have HFT0 : Hid (Fd w w9 rb db (cl || (Fr.frV (xs ++ zs)).2.2) A' n' c' M' m' d' (if cl then xs else xs ++ zs) (if cl then told else (Fr.frV (xs ++ zs)).1.length)) := by rw [hw97]; exact Lib.hid (HJN.out.drewN _)
            have HOT0 : Hid (OwnV w9 wo.heap.size (some ⟨g, 0, none⟩) 3 fd (((zs ++ marks).map (fun d : Nat => (d : Int))).map VZ)) := by rw [hw97, mapVZ]; exact Lib.hid (HFUL.out.below (below_drewN (Below.refl _ _) _))
            have HPZ0 : Hid (PayZ w9 w5.heap.size PA pk pkc (rs.map fun r => ⟨r.b, 0, r.n, r.c⟩)) := by rw [hw97]; exact Lib.hid (HPAY.out.below (below_drewN (Below.refl _ _) _)).z
            have HRN : Hid (∀ (i : Nat) (r : RowZ), (rs.map fun r => (⟨r.b, 0, r.n, r.c⟩ : RowZ))[i]? = some r → r.n ≤ 4096 ∧ r.b ∈ blkP PA rs) := by
              refine Lib.hid fun i r hr => ?_
              rw [List.getElem?_map] at hr
              cases hq : rs[i]? with
              | none => rw [hq] at hr; cases hr
              | some q =>
                rw [hq] at hr
                have hr : r = ⟨q.b, 0, q.n, q.c⟩ := by simpa using hr.symm
                subst hr
                have hm := List.mem_of_getElem? hq
                refine ⟨?_, List.mem_append.2 (.inr (List.mem_map.2 ⟨q, hm, rfl⟩))⟩
                have hp : q.p ∈ rs.map (·.p) := List.mem_map.2 ⟨q, hm, rfl⟩
                rw [HF1.out] at hp
                have hl : q.p.length = q.n := (HF2.out.row q hm).len
                show q.n ≤ 4096
                rw [← hl]
                cases cl with
                | true => simp at hp
                | false => exact (Fr.fr_mem (xs ++ zs) q.p (List.mem_of_mem_drop hp)).2.1
            have HXT : Hid ((if cl then xs else xs ++ zs).length ≤ totL (ps.take (i + 1))) := Lib.hid (by
              have h1 := HXL.out
              have h2 := HTL.out
              have h3 := HP.out.len
              cases cl
              · simp only [Bool.false_eq_true, if_false, List.length_append]; omega
              · simp only [if_true]; omega)
            have HDNb : Hid (m' ≤ 1048576) := Lib.hid (by
              have h1 := HFT0.out.d.len
              have h2 := HXT.out
              have h3 := totL_le ps (i + 1)
              have h4 := HPS.out
              omega)
            clear hw9 hw97 HKE HSL HJN HPAY HFUL HP7 HF1 HF2 HW8
            go_wp2_with fail
            go_loopw [126] (fun jv wx => ∃ j : Nat, j ≤ pk ∧ jv = .int .i64 (j : Int) ∧ Off (blkP PA rs) w9 wx ∧ ∃ rz : List RowZ, PayZ wx w5.heap.size PA pk pkc rz ∧ ∀ (i : Nat) (r : RowZ), rz[i]? = some r → (j ≤ i → r.n ≤ 4096) ∧ (r.b ∈ blkP PA rs ∨ w9.heap.size ≤ r.b)) (fun jv _ => pk - (intOf jv).toNat)
            case atStart => exact ⟨0, by omega, rfl, Off.refl _ _, _, HPZ0.out, fun i r hr => ⟨fun _ => (HRN.out i r hr).1, .inl (HRN.out i r hr).2⟩⟩
            case round =>
              generalize wr = wx at *
              obtain ⟨j, hj, rfl, hjo, rz, hjz, hjr⟩ := hrel
              rcases Nat.lt_or_ge j pk with hjl | hjl
              · obtain ⟨r, pb, po, hr, rfl, hb1, hb2, hcc, hff⟩ := hjz.at_ hjl
                obtain ⟨zz0, hz0⟩ := hjz.row j r hr
                have hrp : r.b ≠ pb := fun e => hjz.ne j r hr (by simp [bkV, e])
                have hrn := (hjr j r hr).1 (Nat.le_refl _)
                have u0 : (0 : Int) ≤ (j : Int) := by omega
                have u1 : (j : Int) < (pk : Int) := by omega
                have HJZ := Lib.hid hjz
                have HJO := Lib.hid hjo
                have HJR := Lib.hid hjr
                have HR := Lib.hid hr
                have HZ0 := Lib.hid hz0
                have HHF := Lib.hid hff
                have HHC := Lib.hid hcc
                have hpj := HPK.out
                clear hjz hjo hjr hr hz0 hff hb1
                go_wp2_with fail
                go_loopw [134] (fun qv wy => ∃ q : Nat, q ≤ r.n ∧ qv = .int .i64 (q : Int) ∧ Off [r.b] wx wy ∧ ∃ zz : List Int, OwnV wy w5.heap.size (some ⟨r.b, r.o, none⟩) r.n r.c (zz.map VZ)) (fun qv _ => r.n - (intOf qv).toNat)
                case atStart => exact ⟨0, by omega, rfl, Off.refl _ _, _, HZ0.out⟩
                case round =>
                  generalize wr = wy at *
                  obtain ⟨q, hq, rfl, hqo, zz, hqz⟩ := hrel
                  have hcy := (hqo.cell (p := ⟨pb, po + j, none⟩) hb2 (by simp; omega)).trans HHC.out
                  have hfy := (hqo.frozen (p := ⟨pb, po + j, none⟩) hb2 (by simp; omega)).trans HHF.out
                  have hly : pb < wy.heap.size := Nat.lt_of_lt_of_le hb2 hqo.size
                  clear hcc
                  rcases Nat.lt_or_ge q r.n with hql | hql
                  · obtain ⟨b1, o1, hbb, hb3, hb4, hc1, hf1⟩ := hqz.cell (by omega)
                    cases hbb
                    have hzl := hqz.len
                    rw [List.length_map] at hzl
                    have gc := hc1 q (VZ zz[q]) (by rw [List.getElem?_map, List.getElem?_eq_getElem (by omega)]; rfl)
                    have gf := hf1 q hql
                    generalize zz[q] = z0 at gc
                    have HQZ := Lib.hid hqz
                    have HQO := Lib.hid hqo
                    have v0 : (0 : Int) ≤ (q : Int) := by omega
                    have v1 : (q : Int) < (r.n : Int) := by omega
                    clear hqz hqo hc1 hf1 hzl hb3
                    go_wp2
                    go_roundw
                    case rel => exact ⟨q + 1, by omega, by push_cast; rfl, HQO.out.setCell (p := ⟨r.b, r.o + q, none⟩) (by simp) _, zz.set q (bits .xor .u8 z0 1), by have := HQZ.out.set q (VZ (bits .xor .u8 z0 1)) hql; rw [List.map_set]; exact this⟩
                    case measure => simp [intOf]; omega
                  · obtain rfl : q = r.n := by omega
                    have v1 : ¬ (r.n : Int) < (r.n : Int) := by omega
                    have bel : Below wy.heap.size wy (wy.alloc (.cells #[.int .u8 9, .int .u8 9] 5)) := (Below.refl _ _).alloc (Nat.le_refl _) _
                    have bl : BlkL (wy.alloc (.cells #[.int .u8 9, .int .u8 9] 5)) wy.heap.size [.int .u8 9, .int .u8 9] := BlkL.new wy [.int .u8 9, .int .u8 9] _
                    have SRC : Hid (SrcV (wy.alloc (.cells #[.int .u8 9, .int .u8 9] 5)) (some ⟨wy.heap.size, 0, none⟩) 2 [.int .u8 9, .int .u8 9]) :=
                      Lib.hid ⟨rfl, (fun e => by cases e), fun ad e j u hu => by cases e; rw [add_litV, Nat.zero_add]; exact bl.cell j u hu, by simp [Value.oneCell']⟩
                    have HOW := Lib.hid (hqz.below bel)
                    have HQO := Lib.hid hqo
                    have HBE := Lib.hid bel
                    have hw5 : w5.heap.size ≤ (wy.alloc (.cells #[.int .u8 9, .int .u8 9] 5)).heap.size := by have := (hqz.lt r.b (by simp [bkV])); simp; omega
                    have HW5 := Lib.hid hw5
                    have hlz : pb < (wy.alloc (.cells #[.int .u8 9, .int .u8 9] 5)).heap.size := by simp; omega
                    have HFY := Lib.hid hfy
                    have HCY := Lib.hid hcy
                    clear hqz hqo bel bl hw5 hfy
                    go_wp2_with (refine wpList_append_a Try.underlying22 hi hz0 hz1 hz2 rfl rfl (.tmp 152) (.tmp 153) rfl rfl HOW.out (some ⟨wy.heap.size, 0, none⟩) 2 2 _ rfl SRC.out (fun e => by cases e) (by omega) (by omega) HW5.out ?_)
                    intro A8 c8 w8 o8 f8 g8
                    obtain ⟨b8, o8', rfl, hb5, hb6, _, _⟩ := o8.cell (by omega)
                    have hofx : Off [r.b] wx w8 := ((HQO.out.trans (Off.of_below HBE.out)).trans (f8.mono (by intro y hy; simpa [bkV] using hy)))
                    have h8b : b8 = r.b ∨ wx.heap.size ≤ b8 := by
                      rcases g8 b8 (by simp [bkV]) with h | ⟨h, _⟩
                      · simp [bkV] at h; exact .inl h
                      · have := HQO.out.size; exact .inr (by omega)
                    have hupd := HJZ.out.upd (r' := ⟨b8, o8', r.n + 2, c8⟩) hjl HR.out hofx ⟨zz ++ [9, 9], by rw [List.map_append]; exact o8⟩ h8b
                    have c8x := (hofx.cell (p := ⟨pb, po + j, none⟩) hb2 (by simp; omega)).trans HHC.out
                    have f8x := (hofx.frozen (p := ⟨pb, po + j, none⟩) hb2 (by simp; omega)).trans HHF.out
                    have l8x : pb < w8.heap.size := Nat.lt_of_lt_of_le hb2 hofx.size
                    have HNX : Hid (Off (blkP (some ⟨pb, po, none⟩) rs) w9 (w8.setCell ⟨pb, po + j, none⟩ (.slice (some ⟨b8, o8', none⟩) (r.n + 2) c8))) := by
                      refine Lib.hid ((HJO.out.new hofx fun y hy => ?_).setCell (p := ⟨pb, po + j, none⟩) (List.mem_append.2 (.inl (by simp [bkV]))) _)
                      simp at hy
                      subst hy
                      exact (HJR.out j r HR.out).2
                    have HNR : Hid (∀ (i : Nat) (q : RowZ), (rz.set j ⟨b8, o8', r.n + 2, c8⟩)[i]? = some q → (j + 1 ≤ i → q.n ≤ 4096) ∧ (q.b ∈ blkP (some ⟨pb, po, none⟩) rs ∨ w9.heap.size ≤ q.b)) := by
                      refine Lib.hid fun i q hq => ?_
                      rw [List.getElem?_set] at hq
                      by_cases e : j = i
                      · subst e
                        rw [if_pos rfl] at hq
                        split at hq
                        · have hq : q = ⟨b8, o8', r.n + 2, c8⟩ := by simpa using hq.symm
                          subst hq
                          refine ⟨fun h => by omega, ?_⟩
                          rcases h8b with h | h
                          · show b8 ∈ _ ∨ _
                            rw [h]; exact (HJR.out j r HR.out).2
                          · exact .inr (Nat.le_trans HJO.out.size h)
                        · cases hq
                      · rw [if_neg e] at hq
                        exact ⟨fun h => (HJR.out i q hq).1 (by omega), (HJR.out i q hq).2⟩
                    have HUP := Lib.hid hupd
                    clear hupd hofx o8 f8 g8 h8b hcy hlz hly
                    go_wp2
                    go_roundw
                    case rel => exact ⟨j + 1, by omega, by push_cast; rfl, HNX.out, _, HUP.out, HNR.out⟩
                    case measure => simp [intOf]; omega
              · obtain rfl : j = pk := by omega
                have v3 : ¬ (j : Int) < (j : Int) := by omega
                have HFT := Lib.hid (HFT0.out.off hjo HBL.out (fun y hy => (HBLK.out y hy).2))
                have HOT := Lib.hid (HOT0.out.off hjo (by intro y hy hs; simp [bkV] at hy; subst hy; exact HGT.out _ hs rfl))
                have HGF : Hid (∀ y ∈ blkF rb db A' M', y ∉ [g]) := Lib.hid fun y hy hs => by simp at hs; exact (HBLK.out y hy).1 hs
                clear hjo hjz hjr HFT0 HOT0
                generalize wx = w9 at *
                generalize (cl || (Fr.frV (xs ++ zs)).2.2) = cl2 at HFT
                generalize (if cl = true then told else (Fr.frV (xs ++ zs)).1.length) = told2 at HFT
                generalize (if cl = true then xs else xs ++ zs) = xs2 at HFT HXT
                go_wp2_with fail
                go_loopw [159] (fun qv wx => ∃ q : Nat, q ≤ 3 ∧ qv = .int .i64 (q : Int) ∧ Off [g] w9 wx ∧ ∃ zz : List Int, OwnV wx wo.heap.size (some ⟨g, 0, none⟩) 3 fd (zz.map VZ)) (fun qv _ => 3 - (intOf qv).toNat)
                case atStart => exact ⟨0, by omega, rfl, Off.refl _ _, _, HOT.out⟩
                case round =>
                  generalize wr = wx at *
                  obtain ⟨q, hq, rfl, hqo, zz, hqz⟩ := hrel
                  have h0b : 3 ≤ 1048579 := by have := HKN.out; omega
                  rcases Nat.lt_or_ge q 3 with hql | hql
                  · obtain ⟨b1, o1, hbb, hb1, hb2, hcc, hff⟩ := hqz.cell (by omega)
                    cases hbb
                    have hzl := hqz.len
                    rw [List.length_map] at hzl
                    have gc := hcc q (VZ zz[q]) (by rw [List.getElem?_map, List.getElem?_eq_getElem (by omega)]; rfl)
                    have gf := hff q hql
                    rw [Nat.zero_add] at gc gf
                    generalize zz[q] = z0 at gc
                    have HQZ := Lib.hid hqz
                    have HQO := Lib.hid hqo
                    have v0 : (0 : Int) ≤ (q : Int) := by omega
                    have v1 : (q : Int) < 3 := by omega
                    have v2 : (q : Int) < ((3 : Nat) : Int) := by omega
                    clear hqz hqo hcc hff hzl hb1
                    go_wp2
                    go_roundw
                    case rel => exact ⟨q + 1, by omega, by push_cast; rfl, HQO.out.setCell (p := ⟨g, q, none⟩) (by simp) _, zz.set q (bits .xor .u8 z0 5), by have := HQZ.out.set q (VZ (bits .xor .u8 z0 5)) hql; rw [Nat.zero_add] at this; rw [List.map_set]; exact this⟩
                    case measure => simp [intOf]; omega
                  · obtain rfl : q = 3 := by omega
                    have v1 : ¬ ((3 : Nat) : Int) < 3 := by omega
                    have hft := HFT.out.off hqo (by intro y hy; simp at hy; subst hy; exact Nat.le_trans HFD.out.b.size HG.out.1) HGF.out
                    have HW1 := Lib.hid (fd_wait wx w.heap.size rb cl2 A' n' c' xs2 hft.r)
                    have HW2 := Lib.hid (fd_dwait wx w.heap.size db cl2 M' m' d' xs2 told2 hft.d (by have := HDNb.out; omega))
                    have HFT2 := Lib.hid hft
                    have hz3 : ((wtV cl2 xs2 : Int) != wtV cl2 xs2) = false := by simp
                    clear hqz hqo hft
                    go_wp2_with fail
                    with_reducible refine (HW1.out).mono ?_
                    rintro e wy ⟨rfl, rfl⟩
                    go_wp2_with fail
                    with_reducible refine (HW2.out).mono ?_
                    rintro e wy ⟨rfl, hby⟩
                    have HNX : Hid (FfI w rb db ps (i + 1) wy) := Lib.hid ⟨cl2, A', n', c', M', m', d', xs2, told2, HFT2.out.below hby, HXT.out⟩
                    clear hby
                    go_wp2
                    go_roundw
                    case rel => exact ⟨i + 1, by omega, by omega, by push_cast; rfl, HNX.out⟩
                    case measure => simp [intOf]; omega
        · have k0 : ((kn : Int) == 0) = false := by simp; omega
          have HFE := Lib.hid (fd_feed w w5 rb db cl RA rn rc DA dn dc xs told (some ⟨g, 0, none⟩) kn fd zs HF5.out HQ5.out (by have := HKN.out; omega))
          obtain ⟨FF, hFF⟩ : ∃ FF, Fr.frV (xs ++ zs) = FF := ⟨_, rfl⟩
          go_wp2_with fail
          with_reducible refine (HFE.out).mono ?_
          rintro e w6 ⟨PA, pk, pkc, rs, A', n', c', rfl, f1, f2, f3, f4, f5, f6, f7, f8⟩
          have hs5 := HF5.out.b.size
          have hwo := HFD.out.b.size
          have hs56 := f7.size
          have b56 : Below w.heap.size w5 w6 := f7.below hs5 fun y hy => (HF5.out.ltS y (by unfold blkF; rcases List.mem_cons.1 hy with rfl | hy <;> simp [*])).1
          have HDF := Lib.hid (fd_dfeed w w6 db cl DA dn dc xs told KA kn kc zs f4 HF5.out.op (Nat.le_trans hs5 hs56) ((HP5.out.below b56).more (Nat.le_trans hs5 hs56)) (by have := HXN.out; have := HKN.out; omega))
          have HF1 := Lib.hid f1
          have HF2 := Lib.hid f2
          have HF3 := Lib.hid f3
          have HF57 := Lib.hid (And.intro f5 (And.intro f6 (And.intro f7 f8)))
          have HP6 := Lib.hid (HP5.out.below b56)
          have HB56 := Lib.hid b56
          have hfe : ((feE cl (Fr.frV (xs ++ zs)).2.2 : Int) != feE cl (Fr.frV (xs ++ zs)).2.2) = false := by simp
          have hpkb : pk ≤ 1048576 := by
            have h1 := f2.len
            have h2 := congrArg List.length f1
            have h3 := Fr.fr_count (xs ++ zs)
            have h4 := HF5.out.d.len
            have h5 := HP5.out.len
            have h6 := HXN.out
            have h7 := HKN.out
            rw [List.length_append] at h3
            rw [List.length_map, h1] at h2
            have h8 : (if cl = true then [] else (Fr.frV (xs ++ zs)).1.drop told).length ≤ (Fr.frV (xs ++ zs)).1.length := by
              cases cl <;> simp
            have h9 := HXL.out
            omega
          have HPK := Lib.hid hpkb
          clear f1 f2 f3 f4 f5 f6 f7 f8 hs5 hs56 b56 hpkb hFF HFE HQ5 hwo
          go_wp2_with fail
          with_reducible refine (HDF.out).mono ?_
          rintro e w7 ⟨LA, lk, lkc, M', m', d', rfl, q1, q2, q3, q4⟩
          have hjn := fd_join HF5.out rfl HF3.out HF57.out.1 HF57.out.2.2.1 q2 q3 q4
          have hs5 := HF5.out.b.size
          have hs56 := HF57.out.2.2.1.size
          have hwo5 := HB5.out.size
          have hg5 : g < w5.heap.size := (HO5.out.lt g (by simp [bkV])).2
          have hDA : ∀ y ∈ db :: bkV DA, y < wo.heap.size := fun y hy => HBF.out y (by unfold blkF; rcases List.mem_cons.1 hy with rfl | hy <;> simp [*])
          have hRA : ∀ y ∈ rb :: bkV RA, y < wo.heap.size := fun y hy => HBF.out y (by unfold blkF; rcases List.mem_cons.1 hy with rfl | hy <;> simp [*])
          have hpay := HF2.out.off q3 (fun y hy hs => by have := (HF2.out.lt y hy).1; have := hDA y hs; omega)
          have hful := (HO5.out.off HF57.out.2.2.1 (by intro y hy hs; simp [bkV] at hy; subst hy; have := hRA _ hs; have := HG.out.1; omega)).off q3 (by intro y hy hs; simp [bkV] at hy; subst hy; have := hDA _ hs; have := HG.out.1; omega)
          have hp7 := (HP6.out.below (q3.below (Nat.le_trans hs5 hs56) (fun y hy => (HF5.out.ltS y (by unfold blkF; rcases List.mem_cons.1 hy with rfl | hy <;> simp [*])).1)))
          have HSL := Lib.hid (sameL_any w7 PA LA pk pkc lk lkc _ _ hpay.arg q1 HF1.out (by have := HPK.out; omega))
          have hblk : ∀ y ∈ blkF rb db A' M', y ≠ g ∧ y ∉ blkP PA rs := by
            intro y hy
            unfold blkF at hy
            have hpl : ∀ z ∈ blkP PA rs, w5.heap.size ≤ z ∧ z < w6.heap.size := fun z hz => HF2.out.lt z hz
            rcases List.mem_cons.1 hy with rfl | hy
            · have := hRA y (by simp); exact ⟨by have := HG.out.1; omega, fun hz => by have := (hpl _ hz).1; omega⟩
            rcases List.mem_cons.1 hy with rfl | hy
            · have := hDA y (by simp); exact ⟨by have := HG.out.1; omega, fun hz => by have := (hpl _ hz).1; omega⟩
            rcases List.mem_append.1 hy with hy | hy
            · refine ⟨?_, HF57.out.2.1 y hy⟩
              rcases HF57.out.2.2.2 y hy with h | h
              · have := hRA y (by simp [h]); have := HG.out.1; omega
              · omega
            · rcases q4 y hy with h | h
              · have := hDA y (by simp [h]); exact ⟨by have := HG.out.1; omega, fun hz => by have := (hpl _ hz).1; omega⟩
              · exact ⟨by omega, fun hz => by have := (hpl _ hz).2; omega⟩
          have HBLK := Lib.hid hblk
          have HJN := Lib.hid hjn
          have HPAY := Lib.hid hpay
          have HFUL := Lib.hid hful
          have HP7 := Lib.hid hp7
          have HBL : Hid (∀ y ∈ blkP PA rs, w.heap.size ≤ y) := Lib.hid fun y hy => by have := (HF2.out.lt y hy).1; omega
          have HGT : Hid (∀ y ∈ blkP PA rs, y ≠ g) := Lib.hid fun y hy e => by have := (HF2.out.lt y hy).1; omega
          clear q1 q2 q3 q4 hjn hs5 hs56 hwo5 hg5 hDA hRA hpay hful hp7 hblk HDF HP5 HP6 HF3 HF57 HB56
          go_wp2_with fail
          with_reducible refine (HSL.out).mono ?_
          rintro e w8 ⟨rfl, t8, hw8⟩
          have HKE : Hid (Calls Try.prog 20 #[.slice (some ⟨g, 0, none⟩) (kn + 3) fd, .slice KA kn kc] w8 (SameEnd w8 true)) := by
            rw [hw8]
            exact Lib.hid (kept_any _ w7.heap.size w.heap.size (some ⟨g, 0, none⟩) KA kn kc fd zs ((HFUL.out.arg HOM.out (fun y hy => (HFUL.out.lt y hy).2)).drewN t8) (HP7.out.drewN t8))
          have HW8 := Lib.hid hw8
          clear hw8
          go_wp2_with fail
          with_reducible refine (HKE.out).mono ?_
          rintro e w9 ⟨rfl, t9, hw9⟩
          have hw97 : w9 = w7.drewN (t8 + t9) := by rw [hw9, HW8.out]; exact World.drewN_drewN _ _ _
          have HFT0 : Hid (Fd w w9 rb db (cl || (Fr.frV (xs ++ zs)).2.2) A' n' c' M' m' d' (if cl then xs else xs ++ zs) (if cl then told else (Fr.frV (xs ++ zs)).1.length)) := by rw [hw97]; exact Lib.hid (HJN.out.drewN _)
          have HOT0 : Hid (OwnV w9 wo.heap.size (some ⟨g, 0, none⟩) (kn + 3) fd (((zs ++ marks).map (fun d : Nat => (d : Int))).map VZ)) := by rw [hw97, mapVZ]; exact Lib.hid (HFUL.out.below (below_drewN (Below.refl _ _) _))
          have HPZ0 : Hid (PayZ w9 w5.heap.size PA pk pkc (rs.map fun r => ⟨r.b, 0, r.n, r.c⟩)) := by rw [hw97]; exact Lib.hid (HPAY.out.below (below_drewN (Below.refl _ _) _)).z
          have HRN : Hid (∀ (i : Nat) (r : RowZ), (rs.map fun r => (⟨r.b, 0, r.n, r.c⟩ : RowZ))[i]? = some r → r.n ≤ 4096 ∧ r.b ∈ blkP PA rs) := by
            refine Lib.hid fun i r hr => ?_
            rw [List.getElem?_map] at hr
            cases hq : rs[i]? with
            | none => rw [hq] at hr; cases hr
            | some q =>
              rw [hq] at hr
              have hr : r = ⟨q.b, 0, q.n, q.c⟩ := by simpa using hr.symm
              subst hr
              have hm := List.mem_of_getElem? hq
              refine ⟨?_, List.mem_append.2 (.inr (List.mem_map.2 ⟨q, hm, rfl⟩))⟩
              have hp : q.p ∈ rs.map (·.p) := List.mem_map.2 ⟨q, hm, rfl⟩
              rw [HF1.out] at hp
              have hl : q.p.length = q.n := (HF2.out.row q hm).len
              show q.n ≤ 4096
              rw [← hl]
              cases cl with
              | true => simp at hp
              | false => exact (Fr.fr_mem (xs ++ zs) q.p (List.mem_of_mem_drop hp)).2.1
          have HXT : Hid ((if cl then xs else xs ++ zs).length ≤ totL (ps.take (i + 1))) := Lib.hid (by
            have h1 := HXL.out
            have h2 := HTL.out
            have h3 := HP.out.len
            cases cl
            · simp only [Bool.false_eq_true, if_false, List.length_append]; omega
            · simp only [if_true]; omega)
          have HDNb : Hid (m' ≤ 1048576) := Lib.hid (by
            have h1 := HFT0.out.d.len
            have h2 := HXT.out
            have h3 := totL_le ps (i + 1)
            have h4 := HPS.out
            omega)
          clear hw9 hw97 HKE HSL HJN HPAY HFUL HP7 HF1 HF2 HW8
          go_wp2_with fail
          go_loopw [126] (fun jv wx => ∃ j : Nat, j ≤ pk ∧ jv = .int .i64 (j : Int) ∧ Off (blkP PA rs) w9 wx ∧ ∃ rz : List RowZ, PayZ wx w5.heap.size PA pk pkc rz ∧ ∀ (i : Nat) (r : RowZ), rz[i]? = some r → (j ≤ i → r.n ≤ 4096) ∧ (r.b ∈ blkP PA rs ∨ w9.heap.size ≤ r.b)) (fun jv _ => pk - (intOf jv).toNat)
          case atStart => exact ⟨0, by omega, rfl, Off.refl _ _, _, HPZ0.out, fun i r hr => ⟨fun _ => (HRN.out i r hr).1, .inl (HRN.out i r hr).2⟩⟩
          case round =>
            generalize wr = wx at *
            obtain ⟨j, hj, rfl, hjo, rz, hjz, hjr⟩ := hrel
            rcases Nat.lt_or_ge j pk with hjl | hjl
            · obtain ⟨r, pb, po, hr, rfl, hb1, hb2, hcc, hff⟩ := hjz.at_ hjl
              obtain ⟨zz0, hz0⟩ := hjz.row j r hr
              have hrp : r.b ≠ pb := fun e => hjz.ne j r hr (by simp [bkV, e])
              have hrn := (hjr j r hr).1 (Nat.le_refl _)
              have u0 : (0 : Int) ≤ (j : Int) := by omega
              have u1 : (j : Int) < (pk : Int) := by omega
              have HJZ := Lib.hid hjz
              have HJO := Lib.hid hjo
              have HJR := Lib.hid hjr
              have HR := Lib.hid hr
              have HZ0 := Lib.hid hz0
              have HHF := Lib.hid hff
              have HHC := Lib.hid hcc
              have hpj := HPK.out
              clear hjz hjo hjr hr hz0 hff hb1
              go_wp2_with fail
              go_loopw [134] (fun qv wy => ∃ q : Nat, q ≤ r.n ∧ qv = .int .i64 (q : Int) ∧ Off [r.b] wx wy ∧ ∃ zz : List Int, OwnV wy w5.heap.size (some ⟨r.b, r.o, none⟩) r.n r.c (zz.map VZ)) (fun qv _ => r.n - (intOf qv).toNat)
              case atStart => exact ⟨0, by omega, rfl, Off.refl _ _, _, HZ0.out⟩
              case round =>
                generalize wr = wy at *
                obtain ⟨q, hq, rfl, hqo, zz, hqz⟩ := hrel
                have hcy := (hqo.cell (p := ⟨pb, po + j, none⟩) hb2 (by simp; omega)).trans HHC.out
                have hfy := (hqo.frozen (p := ⟨pb, po + j, none⟩) hb2 (by simp; omega)).trans HHF.out
                have hly : pb < wy.heap.size := Nat.lt_of_lt_of_le hb2 hqo.size
                clear hcc
                rcases Nat.lt_or_ge q r.n with hql | hql
                · obtain ⟨b1, o1, hbb, hb3, hb4, hc1, hf1⟩ := hqz.cell (by omega)
                  cases hbb
                  have hzl := hqz.len
                  rw [List.length_map] at hzl
                  have gc := hc1 q (VZ zz[q]) (by rw [List.getElem?_map, List.getElem?_eq_getElem (by omega)]; rfl)
                  have gf := hf1 q hql
                  generalize zz[q] = z0 at gc
                  have HQZ := Lib.hid hqz
                  have HQO := Lib.hid hqo
                  have v0 : (0 : Int) ≤ (q : Int) := by omega
                  have v1 : (q : Int) < (r.n : Int) := by omega
                  clear hqz hqo hc1 hf1 hzl hb3
                  go_wp2
                  go_roundw
                  case rel => exact ⟨q + 1, by omega, by push_cast; rfl, HQO.out.setCell (p := ⟨r.b, r.o + q, none⟩) (by simp) _, zz.set q (bits .xor .u8 z0 1), by have := HQZ.out.set q (VZ (bits .xor .u8 z0 1)) hql; rw [List.map_set]; exact this⟩
                  case measure => simp [intOf]; omega
                · obtain rfl : q = r.n := by omega
                  have v1 : ¬ (r.n : Int) < (r.n : Int) := by omega
                  have bel : Below wy.heap.size wy (wy.alloc (.cells #[.int .u8 9, .int .u8 9] 5)) := (Below.refl _ _).alloc (Nat.le_refl _) _
                  have bl : BlkL (wy.alloc (.cells #[.int .u8 9, .int .u8 9] 5)) wy.heap.size [.int .u8 9, .int .u8 9] := BlkL.new wy [.int .u8 9, .int .u8 9] _
                  have SRC : Hid (SrcV (wy.alloc (.cells #[.int .u8 9, .int .u8 9] 5)) (some ⟨wy.heap.size, 0, none⟩) 2 [.int .u8 9, .int .u8 9]) :=
                    Lib.hid ⟨rfl, (fun e => by cases e), fun ad e j u hu => by cases e; rw [add_litV, Nat.zero_add]; exact bl.cell j u hu, by simp [Value.oneCell']⟩
                  have HOW := Lib.hid (hqz.below bel)
                  have HQO := Lib.hid hqo
                  have HBE := Lib.hid bel
                  have hw5 : w5.heap.size ≤ (wy.alloc (.cells #[.int .u8 9, .int .u8 9] 5)).heap.size := by have := (hqz.lt r.b (by simp [bkV])); simp; omega
                  have HW5 := Lib.hid hw5
                  have hlz : pb < (wy.alloc (.cells #[.int .u8 9, .int .u8 9] 5)).heap.size := by simp; omega
                  have HFY := Lib.hid hfy
                  have HCY := Lib.hid hcy
                  clear hqz hqo bel bl hw5 hfy
                  go_wp2_with (refine wpList_append_a Try.underlying22 hi hz0 hz1 hz2 rfl rfl (.tmp 152) (.tmp 153) rfl rfl HOW.out (some ⟨wy.heap.size, 0, none⟩) 2 2 _ rfl SRC.out (fun e => by cases e) (by omega) (by omega) HW5.out ?_)
                  intro A8 c8 w8 o8 f8 g8
                  obtain ⟨b8, o8', rfl, hb5, hb6, _, _⟩ := o8.cell (by omega)
                  have hofx : Off [r.b] wx w8 := ((HQO.out.trans (Off.of_below HBE.out)).trans (f8.mono (by intro y hy; simpa [bkV] using hy)))
                  have h8b : b8 = r.b ∨ wx.heap.size ≤ b8 := by
                    rcases g8 b8 (by simp [bkV]) with h | ⟨h, _⟩
                    · simp [bkV] at h; exact .inl h
                    · have := HQO.out.size; exact .inr (by omega)
                  have hupd := HJZ.out.upd (r' := ⟨b8, o8', r.n + 2, c8⟩) hjl HR.out hofx ⟨zz ++ [9, 9], by rw [List.map_append]; exact o8⟩ h8b
                  have c8x := (hofx.cell (p := ⟨pb, po + j, none⟩) hb2 (by simp; omega)).trans HHC.out
                  have f8x := (hofx.frozen (p := ⟨pb, po + j, none⟩) hb2 (by simp; omega)).trans HHF.out
                  have l8x : pb < w8.heap.size := Nat.lt_of_lt_of_le hb2 hofx.size
                  have HNX : Hid (Off (blkP (some ⟨pb, po, none⟩) rs) w9 (w8.setCell ⟨pb, po + j, none⟩ (.slice (some ⟨b8, o8', none⟩) (r.n + 2) c8))) := by
                    refine Lib.hid ((HJO.out.new hofx fun y hy => ?_).setCell (p := ⟨pb, po + j, none⟩) (List.mem_append.2 (.inl (by simp [bkV]))) _)
                    simp at hy
                    subst hy
                    exact (HJR.out j r HR.out).2
                  have HNR : Hid (∀ (i : Nat) (q : RowZ), (rz.set j ⟨b8, o8', r.n + 2, c8⟩)[i]? = some q → (j + 1 ≤ i → q.n ≤ 4096) ∧ (q.b ∈ blkP (some ⟨pb, po, none⟩) rs ∨ w9.heap.size ≤ q.b)) := by
                    refine Lib.hid fun i q hq => ?_
                    rw [List.getElem?_set] at hq
                    by_cases e : j = i
                    · subst e
                      rw [if_pos rfl] at hq
                      split at hq
                      · have hq : q = ⟨b8, o8', r.n + 2, c8⟩ := by simpa using hq.symm
                        subst hq
                        refine ⟨fun h => by omega, ?_⟩
                        rcases h8b with h | h
                        · show b8 ∈ _ ∨ _
                          rw [h]; exact (HJR.out j r HR.out).2
                        · exact .inr (Nat.le_trans HJO.out.size h)
                      · cases hq
                    · rw [if_neg e] at hq
                      exact ⟨fun h => (HJR.out i q hq).1 (by omega), (HJR.out i q hq).2⟩
                  have HUP := Lib.hid hupd
                  clear hupd hofx o8 f8 g8 h8b hcy hlz hly
                  go_wp2
                  go_roundw
                  case rel => exact ⟨j + 1, by omega, by push_cast; rfl, HNX.out, _, HUP.out, HNR.out⟩
                  case measure => simp [intOf]; omega
            · obtain rfl : j = pk := by omega
              have v3 : ¬ (j : Int) < (j : Int) := by omega
              have HFT := Lib.hid (HFT0.out.off hjo HBL.out (fun y hy => (HBLK.out y hy).2))
              have HOT := Lib.hid (HOT0.out.off hjo (by intro y hy hs; simp [bkV] at hy; subst hy; exact HGT.out _ hs rfl))
              have HGF : Hid (∀ y ∈ blkF rb db A' M', y ∉ [g]) := Lib.hid fun y hy hs => by simp at hs; exact (HBLK.out y hy).1 hs
              clear hjo hjz hjr HFT0 HOT0
              generalize wx = w9 at *
              generalize (cl || (Fr.frV (xs ++ zs)).2.2) = cl2 at HFT
              generalize (if cl = true then told else (Fr.frV (xs ++ zs)).1.length) = told2 at HFT
              generalize (if cl = true then xs else xs ++ zs) = xs2 at HFT HXT
              go_wp2_with fail
              go_loopw [159] (fun qv wx => ∃ q : Nat, q ≤ (kn + 3) ∧ qv = .int .i64 (q : Int) ∧ Off [g] w9 wx ∧ ∃ zz : List Int, OwnV wx wo.heap.size (some ⟨g, 0, none⟩) (kn + 3) fd (zz.map VZ)) (fun qv _ => (kn + 3) - (intOf qv).toNat)
              case atStart => exact ⟨0, by omega, rfl, Off.refl _ _, _, HOT.out⟩
              case round =>
                generalize wr = wx at *
                obtain ⟨q, hq, rfl, hqo, zz, hqz⟩ := hrel
                have hknb : (kn + 3) ≤ 1048579 := by have := HKN.out; omega
                rcases Nat.lt_or_ge q (kn + 3) with hql | hql
                · obtain ⟨b1, o1, hbb, hb1, hb2, hcc, hff⟩ := hqz.cell (by omega)
                  cases hbb
                  have hzl := hqz.len
                  rw [List.length_map] at hzl
                  have gc := hcc q (VZ zz[q]) (by rw [List.getElem?_map, List.getElem?_eq_getElem (by omega)]; rfl)
                  have gf := hff q hql
                  rw [Nat.zero_add] at gc gf
                  generalize zz[q] = z0 at gc
                  have HQZ := Lib.hid hqz
                  have HQO := Lib.hid hqo
                  have v0 : (0 : Int) ≤ (q : Int) := by omega
                  have v1 : (q : Int) < ((kn : Int) + 3) := by omega
                  have v2 : (q : Int) < (((kn + 3) : Nat) : Int) := by omega
                  clear hqz hqo hcc hff hzl hb1
                  go_wp2
                  go_roundw
                  case rel => exact ⟨q + 1, by omega, by push_cast; rfl, HQO.out.setCell (p := ⟨g, q, none⟩) (by simp) _, zz.set q (bits .xor .u8 z0 5), by have := HQZ.out.set q (VZ (bits .xor .u8 z0 5)) hql; rw [Nat.zero_add] at this; rw [List.map_set]; exact this⟩
                  case measure => simp [intOf]; omega
                · obtain rfl : q = (kn + 3) := by omega
                  have v1 : ¬ (((kn + 3) : Nat) : Int) < ((kn : Int) + 3) := by omega
                  have hft := HFT.out.off hqo (by intro y hy; simp at hy; subst hy; exact Nat.le_trans HFD.out.b.size HG.out.1) HGF.out
                  have HW1 := Lib.hid (fd_wait wx w.heap.size rb cl2 A' n' c' xs2 hft.r)
                  have HW2 := Lib.hid (fd_dwait wx w.heap.size db cl2 M' m' d' xs2 told2 hft.d (by have := HDNb.out; omega))
                  have HFT2 := Lib.hid hft
                  have hz3 : ((wtV cl2 xs2 : Int) != wtV cl2 xs2) = false := by simp
                  clear hqz hqo hft
                  go_wp2_with fail
                  with_reducible refine (HW1.out).mono ?_
                  rintro e wy ⟨rfl, rfl⟩
                  go_wp2_with fail
                  with_reducible refine (HW2.out).mono ?_
                  rintro e wy ⟨rfl, hby⟩
                  have HNX : Hid (FfI w rb db ps (i + 1) wy) := Lib.hid ⟨cl2, A', n', c', M', m', d', xs2, told2, HFT2.out.below hby, HXT.out⟩
                  clear hby
                  go_wp2
                  go_roundw
                  case rel => exact ⟨i + 1, by omega, by omega, by push_cast; rfl, HNX.out⟩
                  case measure => simp [intOf]; omega
      · have d200 : (200 : Int) ≤ (i : Int) := by omega
        go_wp2
        go_ret
        exact ⟨rfl, HFD.out.b⟩
    · obtain rfl : i = k := by omega
      have j1 : ¬ (i : Int) < (i : Int) := by omega
      have HBB := Lib.hid hfd.b
      clear hfd
      go_wp2
      go_ret
      exact ⟨rfl, HBB.out⟩
end Go.Proofs.Ytlkkldegbopnpaa
