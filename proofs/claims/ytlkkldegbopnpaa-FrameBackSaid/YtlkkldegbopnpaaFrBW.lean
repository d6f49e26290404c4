/- The law FrameBack: its walk. -/
import Derived.Test.YtlkkldegbopnpaaFrBM
import Derived.Deep.CutBlock
import Derived.Deep.DeepCutAuto
namespace Go.Proofs.Ytlkkldegbopnpaa
open Go.RowKit
set_option maxRecDepth 100000
set_option linter.unusedVariables false
theorem word4_spell (x : Nat) : Tk.wordV x 4 = [x / 16777216 % 256, x / 65536 % 256, x / 256 % 256, x % 256] := by
  simp [Tk.wordV, Nat.div_div_eq_div_mul]
theorem litw (w : World) (x : Nat) : OwnB (w.alloc (.cells #[.int .u8 ((x : Int) / 16777216 % 256), .int .u8 ((x : Int) / 65536 % 256), .int .u8 ((x : Int) / 256 % 256), .int .u8 ((x : Int) % 256)] 5)) w.heap.size (some ⟨w.heap.size, 0, none⟩) 4 4 (Tk.wordV x 4) := by
  rw [word4_spell]
  exact OwnB.lit w [x / 16777216 % 256, x / 65536 % 256, x / 256 % 256, x % 256] (by simp; omega) rfl (by simp [maxLen])
def FbL (w : World) (ps : List (List Nat)) (av wv : Value) (wr : World) : Prop := ∃ j, j ≤ 50 ∧ FbI w ps j av wv wr
set_option maxHeartbeats 6400000 in
theorem frameBack_walk (A : Option Addr) (k c : Nat) (ps : List (List Nat)) (bad : Nat) (S : Option Addr) (m d : Nat) (zs : List Nat) (w : World) (hL : ArgL w w.heap.size A k c ps) (hps : ∀ q ∈ ps, q.length ≤ 140737488351232) (hcc : c ≤ 5864062014634) (hbadI : (bad : Int) ≤ 4294967295)
    (hz : Arg w w.heap.size S m d zs) (hsz : d ≤ 140737488351232) :
    Calls Try.prog 10 #[.slice A k c, .int .u32 (bad : Int), .slice S m d] w fun e w' => e = .returned (.bool true) ∧ Below w.heap.size w w' := by
  obtain ⟨i0, hi, hz0, hz1, hz2⟩ := info_parts u8_info
  obtain ⟨j0, hj, hjz, hj1, hj2⟩ := info_parts pay_info
  have hk : k ≤ 140737488351232 := by have := hL.le; omega
  have hbad : bad < 4294967296 := by omega
  clear hcc hbadI
  have HZ := Lib.hid hz
  have HLL := Lib.hid hL
  have HPS := Lib.hid hps
  have HM : Hid (m ≤ 140737488351232) := Lib.hid (Nat.le_trans hz.le hsz)
  have HBAD := Lib.hid hbad
  clear hz hL hps hsz hbad
  go_enter Try.func10, Try.ntmps10
  go_wp2_with (with_reducible refine (awake20_any w).mono ?_)
  rintro e w1 ⟨rfl, hb1⟩
  have HB1 := Lib.hid hb1
  clear hb1
  go_upto_block 0 with fail
  go_cut [7, 8] (fun av wv wx => FbL w ps av wv wx)
  case first =>
    go_wp2_with fail
    go_loopw [7, 8, 22] (fun av wv iv wr => ∃ j : Nat, j ≤ 50 ∧ j ≤ k ∧ iv = .int .i64 (j : Int) ∧ FbI w ps j av wv wr) (fun _ _ iv _ => k - (intOf iv).toNat)
    case atStart => exact ⟨0, by omega, by omega, rfl, none, 0, 0, none, 0, 0, [], rfl, rfl, HB1.out, OwnV.nil _ _, OwnV.nil _ _, rfl, by simp, by simp [bkV]⟩
    case round =>
      obtain ⟨j, hj50, hjk, rfl, hI⟩ := hrel
      rcases Nat.lt_or_ge j k with hlt | hge
      · obtain ⟨AA, na, ca, WA, nw, cw, es, rfl, rfl, hB, hA, hW, hE, hAr, hdj⟩ := hI
        have hLr := HLL.out.below hB
        obtain ⟨b, off, rfl, hbl, hc⟩ := hLr.at_ (by omega)
        obtain ⟨KA, kn, kc, e0, a0⟩ := hc j hlt
        have hkl := a0.len
        have hkb : kn ≤ 140737488351232 := by rw [← hkl, List.getD_eq_getElem?_getD, List.getElem?_eq_getElem (by rw [HLL.out.len]; exact hlt)]; exact HPS.out _ (List.getElem_mem _)
        have hc0 : Arg w w.heap.size KA kn kc (ps.getD j []) := by
          obtain ⟨b', off', e', _, hc'⟩ := HLL.out.at_ (by omega)
          obtain ⟨KA', kn', kc', e0', a0'⟩ := hc' j hlt
          cases e'
          have := (hB.cell (p := ⟨b, off + j, none⟩) (by assumption)).symm.trans e0
          rw [e0'] at this
          cases this
          exact a0'
        have hjl : j < ps.length := by rw [HLL.out.len]; exact hlt
        have HI := Lib.hid (And.intro hB (And.intro hA (And.intro hW (And.intro hE (And.intro hAr hdj)))))
        have HA0 := Lib.hid a0
        have HC0 := Lib.hid hc0
        have HKL := Lib.hid hkl
        have HJL := Lib.hid hjl
        have i0' : (0 : Int) ≤ (j : Int) := by omega
        have i1' : (j : Int) < (k : Int) := by omega
        clear hc hLr a0 hc0 hB hA hW hE hAr hdj hkl hjl
        rcases Nat.lt_or_ge j 50 with h5 | h5
        · have d50 : decide ((50 : Int) ≤ (j : Int)) = false := by simp; omega
          have d50' : ¬ (50 : Int) ≤ (j : Int) := by omega
          have hown0 : OwnB (wr.alloc (.cells #[] 5)) wr.heap.size (some ⟨wr.heap.size, 0, none⟩) 0 0 [] := OwnB.lit wr [] (by simp) rfl (by unfold maxLen; omega)
          have HO0 := Lib.hid hown0
          have HA1 := Lib.hid ((HA0.out.more (B' := wr.heap.size) HI.out.1.size).below ((Below.refl _ wr).alloc (Nat.le_refl _) (.cells #[] 5)))
          clear hown0
          go_wp2_with (refine wpList_append_bytes rfl (.tmp 30) (.tmp 31) rfl wr.heap.size (some ⟨wr.heap.size, 0, none⟩) 0 0 [] rfl HO0.out wr.heap.size KA kn kc (ps.getD j []) rfl HA1.out (by omega) (by simp) ?_)
          intro XA xc w2 hx hb2
          have hb2' : Below wr.heap.size wr w2 := ((Below.refl _ wr).alloc (Nat.le_refl _) (.cells #[] 5)).trans hb2
          have HX := Lib.hid hx
          have HB2 := Lib.hid hb2'
          clear hx hb2 hb2' HO0 HA1
          have hx2 : OwnB w2 wr.heap.size XA kn xc (ps.getD j []) := by simpa using HX.out
          rcases (by omega : kn = 0 ∨ 4096 < kn ∨ (1 ≤ kn ∧ kn ≤ 4096)) with hv | hv | hv
          · subst hv
            have HE := Lib.hid (fenc_none w2 XA xc)
            have hgd := goodL_skip HJL.out (.inl HKL.out)
            have HN : Hid (FbI w ps (j + 1) (.slice AA na ca) (.slice WA nw cw) w2) := by
              obtain ⟨q1, q2, q3, q4, q5, q6⟩ := HI.out
              exact Lib.hid ⟨AA, na, ca, WA, nw, cw, es, rfl, rfl, q1.trans (HB2.out.mono q1.size), by rw [hgd]; exact q2.below HB2.out, q3.below HB2.out, by rw [hgd]; exact q4, q5, q6⟩
            clear hgd hx2 HX
            go_wp2_with (with_reducible refine (HE.out).mono ?_)
            rintro e w3 ⟨rfl, rfl⟩
            go_wp2
            go_roundw
            case rel => exact ⟨j + 1, by omega, by omega, by push_cast; rfl, HN.out⟩
            case measure => simp [intOf]; omega
          · have HE := Lib.hid (fenc_long w2 XA kn xc hv)
            have hgd := goodL_skip HJL.out (.inr (by rw [HKL.out]; exact hv))
            have HN : Hid (FbI w ps (j + 1) (.slice AA na ca) (.slice WA nw cw) w2) := by
              obtain ⟨q1, q2, q3, q4, q5, q6⟩ := HI.out
              exact Lib.hid ⟨AA, na, ca, WA, nw, cw, es, rfl, rfl, q1.trans (HB2.out.mono q1.size), by rw [hgd]; exact q2.below HB2.out, q3.below HB2.out, by rw [hgd]; exact q4, q5, q6⟩
            have d1 : ((kn : Int) == 0) = false := by simp; omega
            have d2 : decide ((4096 : Int) < (kn : Int)) = true := by simp; omega
            clear hgd hx2 HX
            go_wp2_with (with_reducible refine (HE.out).mono ?_)
            rintro e w3 ⟨rfl, rfl⟩
            go_wp2
            go_roundw
            case rel => exact ⟨j + 1, by omega, by omega, by push_cast; rfl, HN.out⟩
            case measure => simp [intOf]; omega
          · have HE := Lib.hid (fenc_good w2 _ XA kn xc _ hx2.arg (Nat.le_refl _) hv.1 hv.2)
            have d1 : ((kn : Int) == 0) = false := by simp; omega
            have d2 : decide ((4096 : Int) < (kn : Int)) = false := by simp; omega
            have d3 : (((kn + 4 : Nat) : Int) != (kn : Int) + 4) = false := by simp
            clear hx2 HX
            go_wp2_with (with_reducible refine (HE.out).mono ?_)
            rintro e w3 ⟨PA, pc, rfl, ho3, hb3⟩
            have hb3' : Below wr.heap.size wr w3 := HB2.out.trans (hb3.mono HB2.out.size)
            obtain ⟨q1, q2, q3, q4, q5, q6⟩ := HI.out
            have hna : na ≤ j * 4100 := by
              have h1 := q2.len
              rw [List.length_map] at h1
              have h2 := encs_len (l := goodL (ps.take j)) goodL_mem
              have h3 := goodL_len ps j
              have h4 : (goodL (ps.take j)).length * 4100 ≤ j * 4100 := Nat.mul_le_mul_right _ h3
              omega
            have hnw : nw ≤ j := by
              have h1 := q3.len
              have h2 := congrArg List.length q4
              have h3 := goodL_len ps j
              simp only [List.length_map] at h1 h2
              omega
            have HA3 := Lib.hid (q2.below hb3')
            have HW3 := Lib.hid (q3.below hb3')
            have HP3 := Lib.hid ho3.arg.src
            have HPN : Hid (PA = none → pc = 0) := Lib.hid fun e => (ho3.arg.none_ e).2
            have HZ3 : Hid (w.heap.size ≤ w3.heap.size) := Lib.hid (Nat.le_trans q1.size hb3'.size)
            have HB3 := Lib.hid (q1.trans (hb3'.mono q1.size))
            have HNA : Hid ((na + (kn + 4)) * 1 ≤ 140737488355328) := Lib.hid (by omega)
            have HNW : Hid ((nw + 1) * 24 ≤ 140737488355328) := Lib.hid (by omega)
            clear ho3 hb3 hb3' q1 q2 q3 q4 q5 q6 hna hnw
            go_wp2_with (refine wpList_append_a Try.underlying22 hi hz0 hz1 hz2 rfl rfl (.tmp 61) (.tmp 62) rfl rfl HA3.out PA (kn + 4) pc _ rfl HP3.out HPN.out (by omega) HNA.out HZ3.out ?_)
            intro A4 c4 w4 o4 f4 g4
            have HF4 := Lib.hid f4
            have HO4 := Lib.hid o4
            have HG4 := Lib.hid g4
            have HW4 : Hid (OwnV w4 w.heap.size WA nw cw (es.map AE.val)) := Lib.hid (HW3.out.off f4 fun y hy hs => HI.out.2.2.2.2.2 y hs hy)
            have hz4 : w.heap.size ≤ w4.heap.size := Nat.le_trans HZ3.out f4.size
            have HZ4 := Lib.hid hz4
            have bel : Below w4.heap.size w4 (w4.alloc (.cells #[.slice KA kn kc] 22)) := (Below.refl _ _).alloc (Nat.le_refl _) _
            have bl : BlkL (w4.alloc (.cells #[.slice KA kn kc] 22)) w4.heap.size [.slice KA kn kc] := BlkL.new w4 _ _
            have SRC : Hid (SrcV (w4.alloc (.cells #[.slice KA kn kc] 22)) (some ⟨w4.heap.size, 0, none⟩) 1 [.slice KA kn kc]) :=
              Lib.hid ⟨rfl, (fun e => by cases e), fun ad e j u hu => by cases e; rw [add_litV, Nat.zero_add]; exact bl.cell j u hu, by simp [Value.oneCell']⟩
            have HW5 := Lib.hid (HW4.out.below bel)
            have HBE := Lib.hid bel
            have HZ5 : Hid (w.heap.size ≤ (w4.alloc (.cells #[.slice KA kn kc] 22)).heap.size) := Lib.hid (by simp; omega)
            clear o4 f4 g4 bel bl hz4
            go_wp2_with (refine wpList_append_a Try.underlying46 hj hjz hj1 hj2 rfl rfl (.tmp 64) (.tmp 66) rfl rfl HW5.out (some ⟨w4.heap.size, 0, none⟩) 1 1 _ rfl SRC.out (fun e => by cases e) (by omega) HNW.out HZ5.out ?_)
            intro W6 c6 w6 o6 f6 g6
            have hgd := goodL_take HJL.out (by rw [HKL.out]; exact hv.1) (by rw [HKL.out]; exact hv.2)
            have hdw : ∀ y ∈ bkV WA, y < w3.heap.size := fun y hy => (HW3.out.lt y hy).2
            have hda : ∀ y ∈ bkV A4, y ∉ bkV WA := fun y hy hs => by
              rcases HG4.out y hy with h | ⟨h, _⟩
              · exact HI.out.2.2.2.2.2 y h hs
              · have := hdw y hs; omega
            have ha4 : ∀ y ∈ bkV A4, y < w4.heap.size := fun y hy => (HO4.out.lt y hy).2
            have HN : Hid (FbI w ps (j + 1) (.slice A4 (na + (kn + 4)) c4) (.slice W6 (nw + 1) c6) w6) := by
              refine Lib.hid ⟨A4, _, c4, W6, _, c6, es ++ [⟨KA, kn, kc, ps.getD j []⟩], rfl, rfl, ?_, ?_, by simpa using o6, ?_, ?_, ?_⟩
              · refine (HB3.out.trans ((HF4.out.below (B := w.heap.size) HZ3.out fun y hy => (HA3.out.lt y hy).1))).trans ?_
                exact (HBE.out.mono HZ4.out).trans (f6.below HZ5.out fun y hy => (HW5.out.lt y hy).1)
              · have h1 := (HO4.out.below HBE.out).off f6 hda
                rw [hgd, encs_snoc, List.map_append]
                exact h1
              · rw [hgd, List.map_append, HI.out.2.2.2.1]; rfl
              · intro e he
                rcases List.mem_append.1 he with he | he
                · exact HI.out.2.2.2.2.1 e he
                · obtain rfl := List.mem_singleton.1 he
                  exact HC0.out
              · intro y hy hs
                rcases g6 y hs with h | ⟨h, _⟩
                · exact hda y hy h
                · have := ha4 y hy; omega
            clear hgd hdw hda ha4 o6 f6 g6
            go_wp2
            go_roundw
            case rel => exact ⟨j + 1, by omega, by omega, by push_cast; rfl, HN.out⟩
            case measure => simp [intOf]; omega
        · have d50' : (50 : Int) ≤ (j : Int) := by omega
          have HE : Hid (FbL w ps (.slice AA na ca) (.slice WA nw cw) wr) := by
            obtain ⟨q1, q2, q3, q4, q5, q6⟩ := HI.out
            exact Lib.hid ⟨j, by omega, AA, na, ca, WA, nw, cw, es, rfl, rfl, q1, q2, q3, q4, q5, q6⟩
          go_wp2_with fail
          go_meet
          exact HE.out
      · obtain rfl : j = k := by omega
        have j1 : ¬ (j : Int) < (j : Int) := by omega
        obtain ⟨AA, na, ca, WA, nw, cw, es, rfl, rfl, hI⟩ := hI
        have HE : Hid (FbL w ps (.slice AA na ca) (.slice WA nw cw) wr) := Lib.hid ⟨j, by omega, AA, na, ca, WA, nw, cw, es, rfl, rfl, hI⟩
        clear hI
        go_wp2_with fail
        go_meet
        exact HE.out
  case rest =>
    obtain ⟨j, hj50, AA, na, ca, WA, nw, cw, es, rfl, rfl, hB, hA, hW, hE, hAr, hdj⟩ := hcut
    have hgb : ∀ d ∈ encs (goodL (ps.take j)), d < 256 := by
      intro y hy
      unfold encs at hy
      obtain ⟨q, hq, hyq⟩ := List.mem_flatten.1 hy
      obtain ⟨p, hp, rfl⟩ := List.mem_map.1 hq
      unfold Fr.encV at hyq
      rcases List.mem_append.1 hyq with h | h
      · exact Tk.wordV_lt _ _ y h
      · rw [← hE] at hp
        obtain ⟨e, he, rfl⟩ := List.mem_map.1 hp
        exact (hAr e he).byte y h
    have hna : na ≤ 205000 := by
      have h1 := hA.len
      rw [List.length_map] at h1
      have h2 := encs_len (l := goodL (ps.take j)) goodL_mem
      have h3 := goodL_len ps j
      have h4 : (goodL (ps.take j)).length * 4100 ≤ j * 4100 := Nat.mul_le_mul_right _ h3
      omega
    have hfr : Fr.frV ([] ++ encs (goodL (ps.take j))) = (goodL (ps.take j), [], false) := by
      have := Fr.fr_encs (goodL (ps.take j)) [] goodL_mem
      rw [Fr.fr_nil] at this
      simpa [encs] using this
    have hgl := goodL_len ps j
    have HAA := Lib.hid (hA.arg hgb (K := wc.heap.size) fun y hy => (hA.lt y hy).2)
    have HWA := Lib.hid (want_arg (K := wc.heap.size) hW hAr hB (Nat.le_refl _))
    rw [hE] at HWA
    have HB := Lib.hid hB
    have HFR := Lib.hid hfr
    clear hB hA hW hE hAr hdj hfr hgb
    generalize goodL (ps.take j) = gs at *
    have HGL : Hid (gs.length * 24 ≤ 140737488355328) := Lib.hid (by omega)
    clear hgl
    go_wp2_with (with_reducible refine (fnew_any wc).mono ?_)
    rintro e w2 ⟨rfl, rfl⟩
    have bel : Below wc.heap.size wc (wc.alloc (.cells #[.slice none 0 0, .bool false] 113)) := (Below.refl _ _).alloc (Nat.le_refl _) _
    have R2 := Lib.hid (rdm_new wc)
    have A2 := Lib.hid (HAA.out.below bel)
    have W2 := Lib.hid (HWA.out.below bel)
    have B2 : Hid (Below w.heap.size w (wc.alloc (.cells #[.slice none 0 0, .bool false] 113))) := Lib.hid (HB.out.trans (bel.mono HB.out.size))
    have ZR : Hid (w.heap.size ≤ wc.heap.size) := Lib.hid HB.out.size
    clear bel HAA HWA HB
    generalize wc.heap.size = rb at *
    generalize wc.alloc (.cells #[.slice none 0 0, .bool false] 113) = w2 at *
    -- the first Feed
    have hlt2 := R2.out.blk.lt
    have HO0 : Hid (OwnB (w2.alloc (.cells #[] 5)) w2.heap.size (some ⟨w2.heap.size, 0, none⟩) 0 0 []) := Lib.hid (OwnB.lit w2 [] (by simp) rfl (by unfold maxLen; omega))
    have HA1 := Lib.hid ((A2.out.more (B' := w2.heap.size) (by omega)).below ((Below.refl _ w2).alloc (Nat.le_refl _) (.cells #[] 5)))
    have HLT := Lib.hid hlt2
    clear hlt2
    go_wp2_with (refine wpList_append_bytes rfl (.tmp 72) (.tmp 73) rfl w2.heap.size (some ⟨w2.heap.size, 0, none⟩) 0 0 [] rfl HO0.out w2.heap.size AA na ca _ rfl HA1.out (by omega) (by simp) ?_)
    intro X xc w3 hx hb3
    have hb3' : Below w2.heap.size w2 w3 := ((Below.refl _ w2).alloc (Nat.le_refl _) (.cells #[] 5)).trans hb3
    have hx3 : OwnB w3 w2.heap.size X na xc (encs gs) := by simpa using hx
    have HF := Lib.hid (feed_at w3 rb none 0 0 [] X na xc (encs gs) (R2.out.below hb3') hx3.arg (by omega) (by rw [HFR.out]; exact HGL.out))
    have hbr : Below rb w2 w3 := hb3'.mono (by have := HLT.out; omega)
    have A3 := Lib.hid (A2.out.below hbr)
    have W3 := Lib.hid (W2.out.below hbr)
    have B3 := Lib.hid (B2.out.trans (hbr.mono ZR.out))
    clear hx hb3 hb3' hx3 hbr HO0 HA1 A2 W2 B2 R2
    go_wp2_with (with_reducible refine (HF.out).mono ?_)
    rintro e w4 ⟨PA, pk, pkc, rs, A4, n4, c4, rfl, h2, h3, h4, h5⟩
    rw [HFR.out] at h2 h4
    have R4 : Hid (RdM w4 rb rb A4 n4 c4 [] false) := Lib.hid h4
    have hn4 : n4 = 0 := by have := R4.out.len; simpa using this.symm
    subst hn4
    have hz4 := R4.out.blk.lt
    have harg := h3.arg
    rw [h2] at harg
    have hpk := h3.len
    have hpk2 : pk ≤ 140737488355328 := by have h6 := congrArg List.length h2; have := HGL.out; simp only [List.length_map] at h6; omega
    have A5 := Lib.hid (A3.out.below h5)
    have W5 := Lib.hid (W3.out.below h5)
    have B5 := Lib.hid (B3.out.trans (h5.mono ZR.out))
    have HSL := Lib.hid (sameL_any w4 PA WA pk pkc nw cw gs gs harg (W5.out.more (by omega)) rfl hpk2)
    simp only [HFR.out, Bool.false_eq_true, if_false]
    clear h2 h3 h4 h5 harg hpk hpk2 HF A3 W3 B3 hz4
    go_wp2_with fail
    with_reducible refine (HSL.out).mono ?_
    rintro e w5 ⟨rfl, t5, hw5⟩
    have R5 : Hid (RdM w5 rb rb A4 0 c4 [] false) := by rw [hw5]; exact Lib.hid (R4.out.below (below_drewN (Below.refl _ _) t5))
    have A6 : Hid (Arg w5 rb AA na ca (encs gs)) := by rw [hw5]; exact Lib.hid (A5.out.drewN t5)
    have B6 : Hid (Below w.heap.size w w5) := by rw [hw5]; exact Lib.hid (below_drewN B5.out t5)
    clear hw5 R4 A5 W5 B5 HSL
    have HW := Lib.hid (fwait_any w5 rb A4 0 c4 _ R5.out.blk)
    go_wp2_with fail
    with_reducible refine (HW.out).mono ?_
    rintro e w6 ⟨rfl, rfl⟩
    clear HW
    rcases (by omega : bad = 0 ∨ (1 ≤ bad ∧ bad ≤ 4096) ∨ 4096 < bad) with hbd | hbd | hbd
    · subst hbd
      have HFB : Hid (Fr.frV ([] ++ (Tk.wordV 0 4 ++ zs)) = ([], Tk.wordV 0 4 ++ zs, true)) := Lib.hid (Fr.fr_word_bad 0 (by have := HBAD.out; omega) (by omega) zs)
      have HO0 : Hid (OwnB (w5.alloc (.cells #[.int .u8 0, .int .u8 0, .int .u8 0, .int .u8 0] 5)) w5.heap.size (some ⟨w5.heap.size, 0, none⟩) 4 4 (Tk.wordV 0 4)) := Lib.hid (OwnB.lit w5 [0, 0, 0, 0] (by simp) rfl (by simp [maxLen]))
      have bel : Below w5.heap.size w5 (w5.alloc (.cells #[.int .u8 0, .int .u8 0, .int .u8 0, .int .u8 0] 5)) := (Below.refl _ _).alloc (Nat.le_refl _) _
      have HZ1 := Lib.hid ((HZ.out.below B6.out).below (bel.mono B6.out.size))
      have hm4 : 4 + m ≤ 140737488355328 := by have := HM.out; omega
      have HM4 := Lib.hid hm4
      have HS6 : Hid (w.heap.size ≤ (w5.alloc (.cells #[.int .u8 0, .int .u8 0, .int .u8 0, .int .u8 0] 5)).heap.size) := Lib.hid (by have := B6.out.size; simp; omega)
      clear hm4 bel
      go_wp2_with (refine wpList_append_bytes rfl (.tmp 110) (.tmp 111) rfl w5.heap.size (some ⟨w5.heap.size, 0, none⟩) 4 4 _ rfl HO0.out w.heap.size S m d _ rfl HZ1.out HM4.out (by simp) ?_)
      intro X2 xc2 w7 hx7 hb7
      have hb7' : Below w5.heap.size w5 w7 := ((Below.refl _ w5).alloc (Nat.le_refl _) _).trans hb7
      have hz5 := R5.out.blk.lt
      have HF7 := Lib.hid (feed_at w7 rb A4 0 c4 [] X2 (4 + m) xc2 _ (R5.out.below hb7') hx7.arg (by have := HM4.out; omega) (by rw [HFB.out]; simp))
      have hbr : Below rb w5 w7 := hb7'.mono (by omega)
      have A7 := Lib.hid (A6.out.below hbr)
      have B7 := Lib.hid (B6.out.trans (hbr.mono ZR.out))
      clear hx7 hb7 hb7' hbr hz5 HO0 HZ1 A6 B6 R5
      go_wp2_with (with_reducible refine (HF7.out).mono ?_)
      rintro e w8 ⟨PB, qk, qkc, rs2, A8, n8, c8, rfl, g2, g3, g4, g5⟩
      rw [HFB.out] at g2 g4
      have R8 : Hid (RdM w8 rb rb A8 n8 c8 [] true) := Lib.hid g4
      have hq0 : qk = 0 := by have h6 : rs2 = [] := (by simpa using g2); have h7 := g3.len; rw [h6] at h7; simpa using h7.symm
      subst hq0
      have A8' := Lib.hid (A7.out.below g5)
      have B8 := Lib.hid (B7.out.trans (g5.mono ZR.out))
      simp only [HFB.out, if_true]
      clear g2 g3 g4 g5 HF7 A7 B7
      have hz8 := R8.out.blk.lt
      have HO9 : Hid (OwnB (w8.alloc (.cells #[] 5)) w8.heap.size (some ⟨w8.heap.size, 0, none⟩) 0 0 []) := Lib.hid (OwnB.lit w8 [] (by simp) rfl (by unfold maxLen; omega))
      have HA9 := Lib.hid ((A8'.out.more (B' := w8.heap.size) (by omega)).below ((Below.refl _ w8).alloc (Nat.le_refl _) (.cells #[] 5)))
      have HZ8 := Lib.hid hz8
      clear hz8
      go_wp2_with (refine wpList_append_bytes rfl (.tmp 125) (.tmp 126) rfl w8.heap.size (some ⟨w8.heap.size, 0, none⟩) 0 0 [] rfl HO9.out w8.heap.size AA na ca _ rfl HA9.out (by omega) (by simp) ?_)
      intro X3 xc3 w9 hx9 hb9
      have hb9' : Below w8.heap.size w8 w9 := ((Below.refl _ w8).alloc (Nat.le_refl _) _).trans hb9
      have R9 := R8.out.below hb9'
      have HF9 := Lib.hid (feed_closed w9 rb _ (.slice X3 na xc3) R9.blk)
      have B9 := Lib.hid (B8.out.trans (hb9'.mono B8.out.size))
      have HR9 := Lib.hid R9
      clear hx9 hb9 hb9' R9 HO9 HA9 R8 A8' B8
      go_wp2_with (with_reducible refine (HF9.out).mono ?_)
      rintro e w10 ⟨rfl, hb10⟩
      have HE10 := Lib.hid (fend_closed w10 rb _ (HR9.out.below hb10).blk)
      have B10 := Lib.hid (B9.out.trans (hb10.mono B9.out.size))
      clear hb10 HF9 B9
      go_wp2_with (with_reducible refine (HE10.out).mono ?_)
      rintro e w11 ⟨rfl, rfl⟩
      go_wp2
      go_ret
      exact ⟨rfl, B10.out⟩
    · have b1 : decide ((1 : Int) ≤ (bad : Int)) = true := by simp; omega
      have b2 : decide ((bad : Int) ≤ 4096) = true := by simp; omega
      have HFB : Hid (Fr.frV ([] ++ (Tk.wordV 0 4 ++ zs)) = ([], Tk.wordV 0 4 ++ zs, true)) := Lib.hid (Fr.fr_word_bad 0 (by have := HBAD.out; omega) (by omega) zs)
      have HO0 : Hid (OwnB (w5.alloc (.cells #[.int .u8 0, .int .u8 0, .int .u8 0, .int .u8 0] 5)) w5.heap.size (some ⟨w5.heap.size, 0, none⟩) 4 4 (Tk.wordV 0 4)) := Lib.hid (OwnB.lit w5 [0, 0, 0, 0] (by simp) rfl (by simp [maxLen]))
      have bel : Below w5.heap.size w5 (w5.alloc (.cells #[.int .u8 0, .int .u8 0, .int .u8 0, .int .u8 0] 5)) := (Below.refl _ _).alloc (Nat.le_refl _) _
      have HZ1 := Lib.hid ((HZ.out.below B6.out).below (bel.mono B6.out.size))
      have hm4 : 4 + m ≤ 140737488355328 := by have := HM.out; omega
      have HM4 := Lib.hid hm4
      have HS6 : Hid (w.heap.size ≤ (w5.alloc (.cells #[.int .u8 0, .int .u8 0, .int .u8 0, .int .u8 0] 5)).heap.size) := Lib.hid (by have := B6.out.size; simp; omega)
      clear hm4 bel
      go_wp2_with (refine wpList_append_bytes rfl (.tmp 110) (.tmp 111) rfl w5.heap.size (some ⟨w5.heap.size, 0, none⟩) 4 4 _ rfl HO0.out w.heap.size S m d _ rfl HZ1.out HM4.out (by simp) ?_)
      intro X2 xc2 w7 hx7 hb7
      have hb7' : Below w5.heap.size w5 w7 := ((Below.refl _ w5).alloc (Nat.le_refl _) _).trans hb7
      have hz5 := R5.out.blk.lt
      have HF7 := Lib.hid (feed_at w7 rb A4 0 c4 [] X2 (4 + m) xc2 _ (R5.out.below hb7') hx7.arg (by have := HM4.out; omega) (by rw [HFB.out]; simp))
      have hbr : Below rb w5 w7 := hb7'.mono (by omega)
      have A7 := Lib.hid (A6.out.below hbr)
      have B7 := Lib.hid (B6.out.trans (hbr.mono ZR.out))
      clear hx7 hb7 hb7' hbr hz5 HO0 HZ1 A6 B6 R5
      go_wp2_with (with_reducible refine (HF7.out).mono ?_)
      rintro e w8 ⟨PB, qk, qkc, rs2, A8, n8, c8, rfl, g2, g3, g4, g5⟩
      rw [HFB.out] at g2 g4
      have R8 : Hid (RdM w8 rb rb A8 n8 c8 [] true) := Lib.hid g4
      have hq0 : qk = 0 := by have h6 : rs2 = [] := (by simpa using g2); have h7 := g3.len; rw [h6] at h7; simpa using h7.symm
      subst hq0
      have A8' := Lib.hid (A7.out.below g5)
      have B8 := Lib.hid (B7.out.trans (g5.mono ZR.out))
      simp only [HFB.out, if_true]
      clear g2 g3 g4 g5 HF7 A7 B7
      have hz8 := R8.out.blk.lt
      have HO9 : Hid (OwnB (w8.alloc (.cells #[] 5)) w8.heap.size (some ⟨w8.heap.size, 0, none⟩) 0 0 []) := Lib.hid (OwnB.lit w8 [] (by simp) rfl (by unfold maxLen; omega))
      have HA9 := Lib.hid ((A8'.out.more (B' := w8.heap.size) (by omega)).below ((Below.refl _ w8).alloc (Nat.le_refl _) (.cells #[] 5)))
      have HZ8 := Lib.hid hz8
      clear hz8
      go_wp2_with (refine wpList_append_bytes rfl (.tmp 125) (.tmp 126) rfl w8.heap.size (some ⟨w8.heap.size, 0, none⟩) 0 0 [] rfl HO9.out w8.heap.size AA na ca _ rfl HA9.out (by omega) (by simp) ?_)
      intro X3 xc3 w9 hx9 hb9
      have hb9' : Below w8.heap.size w8 w9 := ((Below.refl _ w8).alloc (Nat.le_refl _) _).trans hb9
      have R9 := R8.out.below hb9'
      have HF9 := Lib.hid (feed_closed w9 rb _ (.slice X3 na xc3) R9.blk)
      have B9 := Lib.hid (B8.out.trans (hb9'.mono B8.out.size))
      have HR9 := Lib.hid R9
      clear hx9 hb9 hb9' R9 HO9 HA9 R8 A8' B8
      go_wp2_with (with_reducible refine (HF9.out).mono ?_)
      rintro e w10 ⟨rfl, hb10⟩
      have HE10 := Lib.hid (fend_closed w10 rb _ (HR9.out.below hb10).blk)
      have B10 := Lib.hid (B9.out.trans (hb10.mono B9.out.size))
      clear hb10 HF9 B9
      go_wp2_with (with_reducible refine (HE10.out).mono ?_)
      rintro e w11 ⟨rfl, rfl⟩
      go_wp2
      go_ret
      exact ⟨rfl, B10.out⟩
    · have b1 : decide ((1 : Int) ≤ (bad : Int)) = true := by simp; omega
      have b2 : decide ((bad : Int) ≤ 4096) = false := by simp; omega
      have HFB : Hid (Fr.frV ([] ++ (Tk.wordV bad 4 ++ zs)) = ([], Tk.wordV bad 4 ++ zs, true)) := Lib.hid (Fr.fr_word_bad bad (by have := HBAD.out; omega) (by omega) zs)
      have HO0 : Hid (OwnB (w5.alloc (.cells #[.int .u8 ((bad : Int) / 16777216 % 256), .int .u8 ((bad : Int) / 65536 % 256), .int .u8 ((bad : Int) / 256 % 256), .int .u8 ((bad : Int) % 256)] 5)) w5.heap.size (some ⟨w5.heap.size, 0, none⟩) 4 4 (Tk.wordV bad 4)) := Lib.hid (litw w5 bad)
      have bel : Below w5.heap.size w5 (w5.alloc (.cells #[.int .u8 ((bad : Int) / 16777216 % 256), .int .u8 ((bad : Int) / 65536 % 256), .int .u8 ((bad : Int) / 256 % 256), .int .u8 ((bad : Int) % 256)] 5)) := (Below.refl _ _).alloc (Nat.le_refl _) _
      have HZ1 := Lib.hid ((HZ.out.below B6.out).below (bel.mono B6.out.size))
      have hm4 : 4 + m ≤ 140737488355328 := by have := HM.out; omega
      have HM4 := Lib.hid hm4
      have HS6 : Hid (w.heap.size ≤ (w5.alloc (.cells #[.int .u8 ((bad : Int) / 16777216 % 256), .int .u8 ((bad : Int) / 65536 % 256), .int .u8 ((bad : Int) / 256 % 256), .int .u8 ((bad : Int) % 256)] 5)).heap.size) := Lib.hid (by have := B6.out.size; simp; omega)
      clear hm4 bel
      go_wp2_with (refine wpList_append_bytes rfl (.tmp 110) (.tmp 111) rfl w5.heap.size (some ⟨w5.heap.size, 0, none⟩) 4 4 _ rfl HO0.out w.heap.size S m d _ rfl HZ1.out HM4.out (by simp) ?_)
      intro X2 xc2 w7 hx7 hb7
      have hb7' : Below w5.heap.size w5 w7 := ((Below.refl _ w5).alloc (Nat.le_refl _) _).trans hb7
      have hz5 := R5.out.blk.lt
      have HF7 := Lib.hid (feed_at w7 rb A4 0 c4 [] X2 (4 + m) xc2 _ (R5.out.below hb7') hx7.arg (by have := HM4.out; omega) (by rw [HFB.out]; simp))
      have hbr : Below rb w5 w7 := hb7'.mono (by omega)
      have A7 := Lib.hid (A6.out.below hbr)
      have B7 := Lib.hid (B6.out.trans (hbr.mono ZR.out))
      clear hx7 hb7 hb7' hbr hz5 HO0 HZ1 A6 B6 R5
      go_wp2_with (with_reducible refine (HF7.out).mono ?_)
      rintro e w8 ⟨PB, qk, qkc, rs2, A8, n8, c8, rfl, g2, g3, g4, g5⟩
      rw [HFB.out] at g2 g4
      have R8 : Hid (RdM w8 rb rb A8 n8 c8 [] true) := Lib.hid g4
      have hq0 : qk = 0 := by have h6 : rs2 = [] := (by simpa using g2); have h7 := g3.len; rw [h6] at h7; simpa using h7.symm
      subst hq0
      have A8' := Lib.hid (A7.out.below g5)
      have B8 := Lib.hid (B7.out.trans (g5.mono ZR.out))
      simp only [HFB.out, if_true]
      clear g2 g3 g4 g5 HF7 A7 B7
      have hz8 := R8.out.blk.lt
      have HO9 : Hid (OwnB (w8.alloc (.cells #[] 5)) w8.heap.size (some ⟨w8.heap.size, 0, none⟩) 0 0 []) := Lib.hid (OwnB.lit w8 [] (by simp) rfl (by unfold maxLen; omega))
      have HA9 := Lib.hid ((A8'.out.more (B' := w8.heap.size) (by omega)).below ((Below.refl _ w8).alloc (Nat.le_refl _) (.cells #[] 5)))
      have HZ8 := Lib.hid hz8
      clear hz8
      go_wp2_with (refine wpList_append_bytes rfl (.tmp 125) (.tmp 126) rfl w8.heap.size (some ⟨w8.heap.size, 0, none⟩) 0 0 [] rfl HO9.out w8.heap.size AA na ca _ rfl HA9.out (by omega) (by simp) ?_)
      intro X3 xc3 w9 hx9 hb9
      have hb9' : Below w8.heap.size w8 w9 := ((Below.refl _ w8).alloc (Nat.le_refl _) _).trans hb9
      have R9 := R8.out.below hb9'
      have HF9 := Lib.hid (feed_closed w9 rb _ (.slice X3 na xc3) R9.blk)
      have B9 := Lib.hid (B8.out.trans (hb9'.mono B8.out.size))
      have HR9 := Lib.hid R9
      clear hx9 hb9 hb9' R9 HO9 HA9 R8 A8' B8
      go_wp2_with (with_reducible refine (HF9.out).mono ?_)
      rintro e w10 ⟨rfl, hb10⟩
      have HE10 := Lib.hid (fend_closed w10 rb _ (HR9.out.below hb10).blk)
      have B10 := Lib.hid (B9.out.trans (hb10.mono B9.out.size))
      clear hb10 HF9 B9
      go_wp2_with (with_reducible refine (HE10.out).mono ?_)
      rintro e w11 ⟨rfl, rfl⟩
      go_wp2
      go_ret
      exact ⟨rfl, B10.out⟩
end Go.Proofs.Ytlkkldegbopnpaa
