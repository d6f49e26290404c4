/- GuardOrder: the walk. -/
import Derived.Test.YtifldnkcheobhaaDoorGvS
import Derived.Deep.DeepCutAuto
namespace Go.Proofs.YtifldnkcheobhaaDoor
open Go.RowKit
set_option maxRecDepth 100000
set_option linter.unusedVariables false
set_option linter.unusedSimpArgs false
set_option maxHeartbeats 8000000

theorem rhook_info : (Tryd.prog.info? 53).map (fun i => (i.zero, i.size, i.bytes)) = some (some (.agg #[.string ⟨#[]⟩, .slice none 0 0]), 2, 40) := by kernel_rfl
theorem info_partsRHook : ∃ i0, Tryd.prog.info? 53 = some i0 ∧ i0.zero = some (.agg #[.string ⟨#[]⟩, .slice none 0 0]) ∧ i0.size = 2 ∧ i0.bytes = 40 := by
  have h := rhook_info
  cases hh : Tryd.prog.info? 53 with
  | none => rw [hh] at h; cases h
  | some i0 =>
    rw [hh] at h
    simp only [Option.map_some, Option.some.injEq, Prod.mk.injEq] at h
    exact ⟨i0, rfl, h.1, h.2.1, h.2.2⟩
theorem lstStr (a b : ByteArray) (q : Bool) (h : decide (a = b) = q) : (a.toList == b.toList) = q := by
  rw [← h, Bool.eq_iff_iff, beq_iff_eq, decide_eq_true_iff, ByteArray.toList_eq, ByteArray.toList_eq]
  constructor
  · intro g
    cases a
    cases b
    simp only [ByteArray.mk.injEq]
    exact Array.toList_inj.1 g
  · intro g
    rw [g]
theorem eqStr (a b : ByteArray) (q : Bool) (h : decide (a = b) = q) (w : World) : (binOp .eql 9 (.string a) (.string b)).run Tryd.prog w = .ok (.bool q) w := by
  have e : (a.toList == b.toList) = q := by
    rw [← h, Bool.eq_iff_iff, beq_iff_eq, decide_eq_true_iff, ByteArray.toList_eq, ByteArray.toList_eq]
    constructor
    · intro g
      cases a
      cases b
      simp only [ByteArray.mk.injEq]
      exact Array.toList_inj.1 g
    · intro g
      rw [g]
  simp [go_sem, Result.andThen, e]
theorem guardOrder_walk {w0 : World} (L : Value) (l : List HookV) (strikes i j : Int) (w : World) (h0 : Lib0 w0) (hb : Below w0.heap.size w0 w) (hL : HksA w L l) (hnl : ∀ A n c, L = .slice A n c → A = none → c = 0) :
    Calls Tryd.prog 10 #[L, .int .i64 strikes, .int .i64 i, .int .i64 j] w fun e w' => e = .returned (.bool true) ∧ Below w.heap.size w w' := by
  obtain ⟨iH, hiH, hH0, hH1, hH2⟩ := info_partsRHook
  obtain ⟨s, t, m1, -, -, -, -⟩ := umod strikes 5 (by omega) (by omega)
  obtain ⟨kk, hkk⟩ : ∃ kk, kk = s % 5 + 1 := ⟨_, rfl⟩
  have HKK : Hid (1 + (s : Int) % 5 = (kk : Int)) := Lib.hid (by omega)
  have hk1 : 1 ≤ kk ∧ kk ≤ 5 := by omega
  obtain ⟨LA, lc, rfl⟩ : ∃ LA lc, L = .slice LA l.length lc := by obtain ⟨A, c, h, _⟩ := hL.q; exact ⟨A, c, h⟩
  have HL := Lib.hid hL
  have HAW := Lib.hid (awake10_any h0 hb)
  have HBW := Lib.hid hb
  have hlen := hL.len
  have hl40 := hL.s.1
  clear hL hb hkk
  go_enter Tryd.func10, Tryd.ntmps10
  go_wp2_with fail
  with_reducible refine HAW.out.mono ?_
  rintro e w1 ⟨rfl, hb1⟩
  have b2 := (Below.refl w1.heap.size w1).alloc (Nat.le_refl _) (.cells #[] 53)
  have hb2 := hb1.trans (b2.mono hb1.size)
  obtain ⟨Ps, hPl, hsrc, hPp⟩ := (HL.out.q.below hb2).src
  have HSRC := Lib.hid hsrc
  have HPP := Lib.hid hPp
  have HO := Lib.hid (OwnS.lit (k := 2) (n := 0) (B := w1.heap.size) (BlkL.new w1 [] 53) rfl (by unfold maxLen; omega) (Nat.le_refl _))
  have HB1 := Lib.hid hb1
  have HB2 := Lib.hid hb2
  have hw1 := hb1.size
  have hcn : LA = none → lc = 0 := hnl _ _ _ rfl
  have HB22 := Lib.hid b2
  clear hsrc hPp hb1 hb2 b2 hPl hnl
  go_wp2_with (refine wpList_append_s Tryd.underlying41 hiH hH0 hH1 hH2 rfl rfl (.tmp 30) (.tmp 31) rfl rfl HO.out LA l.length lc _ rfl HSRC.out hcn (by omega) (by omega) (HB22.out.size) ?_)
  intro A3 c3 w3 ho3 hf3 hbk3
  have ho3' : OwnS w3 w1.heap.size 2 A3 l.length c3 (FHk l Ps) := by simpa using ho3
  have hb3 : Below w.heap.size w w3 := HB2.out.trans (hf3.below HB2.out.size (by simp [bkV]; omega))
  have HT : Hid (TurnM w3 w.heap.size w1.heap.size A3 c3 l) := Lib.hid ⟨_, ho3', fun m x hx => by
    obtain ⟨P, hP, hPw⟩ := HPP.out m x hx
    obtain ⟨f0, f1⟩ := FHk_at l Ps m x P hx hP
    exact ⟨P, f0, f1, hPw.below (hf3.below HB2.out.size (by simp [bkV]; omega))⟩⟩
  have HB3 := Lib.hid hb3
  clear ho3 hf3 hbk3 ho3' hb3
  go_upto_if 35 with (fail)
  go_cut [2, 3] (fun _ _ wx => ∃ l' : List HookV, l'.Perm l ∧ TurnM wx w.heap.size w1.heap.size A3 c3 l' ∧ Below w.heap.size w wx)
  case first =>
    rcases Nat.eq_zero_or_pos l.length with hz | hz
    · obtain rfl := List.eq_nil_of_length_eq_zero hz
      go_wp2_with fail
      go_meet
      exact ⟨[], List.Perm.refl _, HT.out, HB3.out⟩
    · have hz0 : (0 : Int) < (l.length : Int) := by omega
      obtain ⟨i1, i2, p1, p2, p3, p4, p5, p6⟩ := swap_int i j l.length hz (by omega)
      obtain ⟨j1, j2, q1, q2, q3, q4, q5, q6⟩ := swap_int j i l.length hz (by omega)
      have wk1 : IntKind.u64.wrap (l.length : Int) = (l.length : Int) := IntWalk.u64_in _ (by omega)
      obtain ⟨vs, hvs, hat⟩ := id HT.out
      obtain ⟨x, hx⟩ : ∃ x, l[i2]? = some x := ⟨_, List.getElem?_eq_getElem p3⟩
      obtain ⟨y, hy⟩ : ∃ y, l[j2]? = some y := ⟨_, List.getElem?_eq_getElem q3⟩
      obtain ⟨Px, a0, a1, a2⟩ := hat i2 x hx
      obtain ⟨Py, b0, b1, b2⟩ := hat j2 y hy
      obtain ⟨tb, tf, rfl, ht1, ht2, hcl, hfr⟩ := hvs.cell hz
      have x0 := hcl _ _ a0
      have x1 := hcl _ _ a1
      have y0 := hcl _ _ b0
      have y1 := hcl _ _ b1
      rw [← Nat.add_assoc] at x1 y1
      have fx0 := hfr (i2 * 2) (by omega)
      have fx1 := hfr (i2 * 2 + 1) (by omega)
      have fy0 := hfr (j2 * 2) (by omega)
      have fy1 := hfr (j2 * 2 + 1) (by omega)
      rw [← Nat.add_assoc] at fx1 fy1
      have hii : (i2 : Int) < (l.length : Int) := by omega
      have hjj : (j2 : Int) < (l.length : Int) := by omega
      have hsw := HT.out.swap hw1 hx hy x1 y1
      have HSW := Lib.hid hsw
      have hbs : ∀ (u1 u2 u3 u4 : Value), Below w.heap.size w ((((w3.setCell ⟨tb, tf + i2 * 2, none⟩ u1).setCell ⟨tb, tf + i2 * 2 + 1, none⟩ u2).setCell ⟨tb, tf + j2 * 2, none⟩ u3).setCell ⟨tb, tf + j2 * 2 + 1, none⟩ u4) := fun u1 u2 u3 u4 => HB3.out.trans ((((((Off.refl [tb] w3).setCell (p := ⟨tb, tf + i2 * 2, none⟩) (by simp) _).setCell (p := ⟨tb, tf + i2 * 2 + 1, none⟩) (by simp) _).setCell (p := ⟨tb, tf + j2 * 2, none⟩) (by simp) _).setCell (p := ⟨tb, tf + j2 * 2 + 1, none⟩) (by simp) _).below HB3.out.size (by simp; omega))
      have HBS := Lib.hid (hbs (.string y.nm) Py (.string x.nm) Px)
      have HX := Lib.hid hx
      have HY := Lib.hid hy
      obtain ⟨XA, xc, rfl⟩ : ∃ XA xc, Px = .slice XA x.p.length xc := by obtain ⟨A, c, h, _⟩ := a2; exact ⟨A, c, h⟩
      obtain ⟨YA, yc, rfl⟩ : ∃ YA yc, Py = .slice YA y.p.length yc := by obtain ⟨A, c, h, _⟩ := b2; exact ⟨A, c, h⟩
      clear hvs hat hcl hfr a0 a1 a2 b0 b1 b2 hsw hbs
      clear hx hy
      go_upto_region 6 with (fail)
      go_region
      by_cases hij : i2 = j2
      · subst hij
        obtain rfl : x = y := Option.some.inj (HX.out.symm.trans HY.out)
        have hxy := Option.some.inj (x1.symm.trans y1)
        injection hxy with g1 g2 g3
        subst g1 g3
        clear y0 y1 fy0 fy1 hjj g2
        go_upto_region 7 with (fail)
        go_region
        go_wp2_with fail
        go_meet
        exact ⟨_, swapL_perm l _ _, HSW.out.below HBS.out.size (Below.refl _ _).drew.drew, HBS.out.drew.drew⟩
      · have d1 : ¬ tf + i2 * 2 = tf + j2 * 2 := by omega
        have d2 : ¬ tf + j2 * 2 = tf + i2 * 2 := by omega
        have d3 : ¬ tf + i2 * 2 + 1 = tf + j2 * 2 := by omega
        have d4 : ¬ tf + j2 * 2 = tf + i2 * 2 + 1 := by omega
        have d5 : ¬ tf + i2 * 2 = tf + j2 * 2 + 1 := by omega
        have d6 : ¬ tf + j2 * 2 + 1 = tf + i2 * 2 := by omega
        have d7 : ¬ tf + i2 * 2 + 1 = tf + j2 * 2 + 1 := by omega
        have d8 : ¬ tf + j2 * 2 + 1 = tf + i2 * 2 + 1 := by omega
        clear hij
        go_upto_region 7 with (fail)
        go_region
        go_wp2_with fail
        go_meet
        exact ⟨_, swapL_perm l _ _, HSW.out.below HBS.out.size (Below.refl _ _).drew.drew, HBS.out.drew.drew⟩
  case rest =>
    obtain ⟨l', hlp, hT, hbc⟩ := hcut
    have HLP := Lib.hid hlp
    have hl2 : l'.length = l.length := hlp.length_eq
    have HB4 := Lib.hid hbc
    have HT4 := Lib.hid hT
    have HH := Lib.hid (hooks10_any wc w.heap.size _ l (HL.out.q.below hbc) hbc.size HL.out.s)
    clear hlp hT hbc HT HSRC HPP HO HB22
    go_wp2_with fail
    with_reducible refine HH.out.mono ?_
    rintro e w5 ⟨A5, c5, rfl, ⟨vs5, hN5⟩, hb5⟩
    have HNW := Lib.hid (new_any w5 w5.heap.size _ l (kk : Int) hN5.q (Nat.le_refl _) HL.out.r HL.out.len HL.out.nm (by omega))
    have HB5 := Lib.hid (HB4.out.trans (hb5.mono HB4.out.size))
    have HT5 := Lib.hid (HT4.out.below HB4.out.size hb5)
    clear hN5 hb5
    go_wp2_with fail
    rw [HKK.out]
    with_reducible refine HNW.out.mono ?_
    rintro e w6 ⟨v6, rfl, hNP6, hb6⟩
    have HB6 := Lib.hid (HB5.out.trans (hb6.mono HB5.out.size))
    have hT6 := HT5.out.below HB5.out.size hb6
    have hW6 := hT6.w HB6.out.size
    rw [hl2] at hW6
    have HH2 := Lib.hid (hooks10_any w6 w6.heap.size _ l' hW6 (Nat.le_refl _) ⟨by rw [hl2]; exact hl40, fun x hx => HL.out.s.2 x (HLP.out.mem_iff.1 hx)⟩)
    rw [hl2] at HH2
    have HNP6 := Lib.hid hNP6
    have hw56 := hb6.size
    clear hT6 hW6 hNP6 hb6
    go_wp2_with fail
    with_reducible refine HH2.out.mono ?_
    rintro e w7 ⟨A7, c7, rfl, ⟨vs7, hN7⟩, hb7⟩
    have hq7 := hN7.q
    have HNW2 := Lib.hid (new_any w7 w7.heap.size _ l' (kk : Int) hq7 (Nat.le_refl _) (fun x hx => HL.out.r x (HLP.out.mem_iff.1 hx)) (by rw [hl2]; exact HL.out.len) (fun x hx => HL.out.nm x (HLP.out.mem_iff.1 hx)) (by omega))
    rw [hl2, newV_perm HLP.out] at HNW2
    have HB67 := Lib.hid hb7
    have HB7 := Lib.hid (HB6.out.trans (hb7.mono HB6.out.size))
    clear hN7 hb7 hq7
    go_wp2_with fail
    with_reducible refine HNW2.out.mono ?_
    rintro e w8 ⟨v8, rfl, hNP8, hb8⟩
    have HB8 := Lib.hid (HB7.out.trans (hb8.mono HB7.out.size))
    have HB78 := Lib.hid hb8
    rcases HNP6.out with ⟨hz, rfl⟩ | ⟨hz, rb, mb, hA, hc, gs, rfl, hX, hgs⟩
    · have hz8 : newV l' ≠ 0 := by rw [newV_perm HLP.out]; exact hz
      obtain rfl : v8 = .pointer none := by
        rcases hNP8 with ⟨_, e⟩ | ⟨e, _⟩
        · exact e
        · exact absurd e hz8
      obtain ⟨r, hr⟩ : ∃ r, newV l = r := ⟨_, rfl⟩
      rw [hr]
      have hne : ((r : Int) != (r : Int)) = false := by simp
      have HFI : Hid (∀ W, Calls Tryd.prog 17 #[.pointer none] W fun e w' => e = .returned (.tuple #[.slice none 0 0, .int .i64 7]) ∧ w' = W) := Lib.hid fire_nil
      clear hNP8 hb8 hz8 hr hz
      go_wp2_with fail
      go_loopw [81] (fun iv wr => ∃ n : Nat, n ≤ 3 ∧ iv = .int .i64 (n : Int) ∧ wr = w8) (fun iv _ => 3 - (intOf iv).toNat)
      case atStart => exact ⟨0, by omega, rfl, rfl⟩
      case round =>
        obtain ⟨n, hn, rfl, rfl⟩ := hrel
        rcases Nat.lt_or_ge n 3 with h3 | h3
        · have hnn : (n : Int) < 3 := by omega
          have hnp : IntKind.i64.wrap ((n : Int) + 1) = ((n + 1 : Nat) : Int) := by rw [IntWalk.i64_in _ (by omega)]; omega
          go_wp2_with fail
          with_reducible refine (HFI.out _).mono ?_
          rintro e wa ⟨rfl, rfl⟩
          go_wp2_with fail
          with_reducible refine (HFI.out _).mono ?_
          rintro e wb ⟨rfl, rfl⟩
          go_wp2_with fail
          go_loopw [105] (fun iv wr => iv = .int .i64 0 ∧ wr = wb) (fun iv _ => 0)
          case atStart => exact ⟨rfl, rfl⟩
          case round =>
            obtain ⟨rfl, rfl⟩ := hrel
            go_wp2
            go_roundw
            case rel => first | exact ⟨n + 1, by omega, rfl, rfl⟩ | exact ⟨n + 1, by omega, rfl, trivial⟩
            case measure => simp [intOf]; omega
        · have hnn : ¬ (n : Int) < 3 := by omega
          go_wp2
          go_ret
          exact ⟨rfl, HB8.out⟩
    · have hz8 : newV l' = 0 := by rw [newV_perm HLP.out]; exact hz
      rcases hNP8 with ⟨e, -⟩ | ⟨-, rb', mb', hA', hc', gs', rfl, hX', hgs'⟩
      · exact absurd hz8 e
      rw [hz]
      obtain ⟨hl32, hchk, hnd, -⟩ := newV_zero hz
      have hgl : gs.length = l.length := by rw [← hgs, List.length_map]
      have hgl' : gs'.length = l.length := by rw [← hl2, ← hgs', List.length_map]
      have hpo : ∀ g ∈ gs, ProgOk g.p := fun g hg => by
        have : g.hook ∈ l := by rw [← hgs]; exact List.mem_map.2 ⟨g, hg, rfl⟩
        exact chkF_ok (hchk _ this) (HL.out.r _ this)
      have hpo' : ∀ g ∈ gs', ProgOk g.p := fun g hg => by
        have : g.hook ∈ l := HLP.out.mem_iff.1 (by rw [← hgs']; exact List.mem_map.2 ⟨g, hg, rfl⟩)
        exact chkF_ok (hchk _ this) (HL.out.r _ this)
      have hXs := hX.below HB67.out
      have HXS := Lib.hid hXs
      have hX1 : RingX w8 w5.heap.size rb mb hA hc gs (kk : Int) (gs.map GH.nm) (stA gs kk 1) := by rw [stA_one]; exact hXs.below hb8
      have hX2 : RingX w8 w7.heap.size rb' mb' hA' hc' gs' (kk : Int) (gs'.map GH.nm) (stA gs' kk 1) := by rw [stA_one]; exact hX'
      have HX1 := Lib.hid hX1
      have HX2 := Lib.hid hX2
      have HPO := Lib.hid hpo
      have HPO' := Lib.hid hpo'
      have HND := Lib.hid hnd
      have HGS := Lib.hid hgs
      have HGS' := Lib.hid hgs'
      have h05 : w0.heap.size ≤ w5.heap.size := Nat.le_trans HBW.out.size HB5.out.size
      have h07 : w0.heap.size ≤ w7.heap.size := Nat.le_trans HBW.out.size HB7.out.size
      have hw5 : w.heap.size ≤ w5.heap.size := HB5.out.size
      have hw7 : w.heap.size ≤ w7.heap.size := HB7.out.size
      have hw78 : w7.heap.size ≤ w8.heap.size := HB78.out.size
      clear hX hX' hgs hgs' hz hz8 hchk hnd hpo hpo' hXs hX1 hX2 hb8
      go_wp2_with fail
      go_loopw [81] (fun iv wr => ∃ n : Nat, n ≤ 3 ∧ iv = .int .i64 (n : Int) ∧ RingX wr w5.heap.size rb mb hA hc gs (kk : Int) (gs.map GH.nm) (stA gs kk (n + 1)) ∧ RingX wr w7.heap.size rb' mb' hA' hc' gs' (kk : Int) (gs'.map GH.nm) (stA gs' kk (n + 1)) ∧ Below w.heap.size w wr ∧ w7.heap.size ≤ wr.heap.size) (fun iv _ => 3 - (intOf iv).toNat)
      case atStart => exact ⟨0, by omega, rfl, HX1.out, HX2.out, HB8.out, hw78⟩
      case round =>
        obtain ⟨n, hn, rfl, hXa, hXb, hbr, hsz⟩ := hrel
        have HBR := Lib.hid hbr
        rcases Nat.lt_or_ge n 3 with h3 | h3
        · have hnn : (n : Int) < 3 := by omega
          have hnp : IntKind.i64.wrap ((n : Int) + 1) = ((n + 1 : Nat) : Int) := by rw [IntWalk.i64_in _ (by omega)]; omega
          have HFI := Lib.hid (Fire_any h0 (HBW.out.trans (hbr.mono HBW.out.size)) hXa h05 HPO.out (fun i => stA_nonneg gs kk (n + 1) i (by omega)) (by omega))
          rw [after_A gs kk (n + 1) (by omega) (by omega)] at HFI
          have HXA := Lib.hid hXa
          have HXB := Lib.hid hXb
          clear hXa hXb hbr
          generalize wr = wx at *
          go_wp2_with fail
          with_reducible refine HFI.out.mono ?_
          rintro e wa ⟨Aa, ca, ma, rfl, ⟨ra, rfl, hRa, hra⟩, hXa, hofa⟩
          have hba : Below w.heap.size w wa := HBR.out.trans (hofa.below HBR.out.size (fun x hx => by obtain ⟨g, hg, rfl⟩ := List.mem_map.1 hx; exact Nat.le_trans hw5 (HXA.out.sep g hg).1))
          have hXba := HXB.out.offB hofa (fun y hy => by obtain ⟨g, hg, rfl⟩ := List.mem_map.1 hy; exact HXS.out.ltB g hg)
          have HFJ := Lib.hid (Fire_any h0 (HBW.out.trans (hba.mono HBW.out.size)) hXba h07 HPO'.out (fun i => stA_nonneg gs' kk (n + 1) i (by omega)) (by omega))
          rw [after_A gs' kk (n + 1) (by omega) (by omega)] at HFJ
          have HRA := Lib.hid hRa
          have HRa := Lib.hid hra
          have HXa := Lib.hid hXa
          have HXba := Lib.hid hXba
          have HBA := Lib.hid hba
          have hsa : wx.heap.size ≤ wa.heap.size := hofa.size
          clear hRa hra hXa hofa hba hXba
          go_wp2_with fail
          with_reducible refine HFJ.out.mono ?_
          rintro e wb ⟨Ab, cb, mb2, rfl, ⟨rs, rfl, hRb, hrb⟩, hXb, hofb⟩
          have hbb : Below w.heap.size w wb := HBA.out.trans (hofb.below HBA.out.size (fun x hx => by obtain ⟨g, hg, rfl⟩ := List.mem_map.1 hx; exact Nat.le_trans hw7 (HXba.out.sep g hg).1))
          have hXab := HXa.out.offN HXS.out hofb (fun y hy => by obtain ⟨g, hg, rfl⟩ := List.mem_map.1 hy; exact (HXba.out.sep g hg).1)
          have hRab := HRA.out.off hofb (fun y hy => Or.inl (by obtain ⟨g, hg, rfl⟩ := List.mem_map.1 hy; exact HXB.out.ltB g hg))
          have hflat : (ra.map RpM.r).Perm (rs.map RpM.r) := by
            rw [HRa.out, hrb, fires_flat gs kk (n + 1) (by omega) (by omega), fires_flat gs' kk (n + 1) (by omega) (by omega), HGS.out, HGS'.out]
            exact (HLP.out.flatMap_right _).symm
          have hndn : ((rs.map RpM.r).map RepC.nm).Nodup := by
            rw [hrb, fires_flat gs' kk (n + 1) (by omega) (by omega), HGS'.out]
            exact flat_nodup kk (n + 1) l' ((HLP.out.map HookV.nm).nodup_iff.2 HND.out)
          have hlab : ra.length = rs.length := by have := hflat.length_eq; simpa using this
          have hrsl : rs.length ≤ 32 := by
            have e := congrArg List.length hrb
            rw [List.length_map] at e
            rw [e]
            exact Nat.le_trans (fires_le _ _ _ _) (by omega)
          rw [hlab]
          have HFL := Lib.hid hflat
          have HNN := Lib.hid hndn
          have HLAB := Lib.hid hlab
          have HRB := Lib.hid hRb
          have HRAB := Lib.hid hRab
          have HXF := Lib.hid hXab
          have HXG := Lib.hid hXb
          have HBB := Lib.hid hbb
          have hsb : wa.heap.size ≤ wb.heap.size := hofb.size
          have hne0 : ((rs.length : Int) != (rs.length : Int)) = false := by simp
          clear hRb hrb hXb hofb hbb hXab hRab hflat hndn hlab
          go_wp2_with fail
          go_loopw [105] (fun iv wr => ∃ i : Nat, i ≤ rs.length ∧ iv = .int .i64 (i : Int) ∧ Below wb.heap.size wb wr) (fun iv _ => rs.length - (intOf iv).toNat)
          case atStart => exact ⟨0, Nat.zero_le _, rfl, Below.refl _ _⟩
          case round =>
            obtain ⟨i, hi, rfl, hbi⟩ := hrel
            have HBI := Lib.hid hbi
            rcases Nat.lt_or_ge i rs.length with h1 | h1
            · have hii : (i : Int) < (rs.length : Int) := by omega
              have hi1 : IntKind.i64.wrap ((i : Int) + 1) = ((i + 1 : Nat) : Int) := by rw [IntWalk.i64_in _ (by omega)]; omega
              obtain ⟨x, hx⟩ : ∃ x, ra[i]? = some x := ⟨_, List.getElem?_eq_getElem (by rw [HLAB.out]; exact h1)⟩
              obtain ⟨ab, ao, rfl, z0, z1, z2, z3, z4⟩ := rep_at (HRAB.out.off (S := []) (Off.of_below hbi) (by simp)) hx
              have hxm : x.r ∈ rs.map RpM.r := HFL.out.mem_iff.1 (List.mem_map.2 ⟨x, List.mem_of_getElem? hx, rfl⟩)
              have HXM := Lib.hid hxm
              have bx := (Below.refl wr.heap.size wr).alloc (Nat.le_refl _) (.cells #[.string x.r.nm, .slice x.A x.r.ms.length x.c, .int .u8 (x.r.cls : Int), .int .i64 x.r.n, .bool x.r.off] 56)
              have KX := Lib.hid (BlkL.new wr [.string x.r.nm, .slice x.A x.r.ms.length x.c, .int .u8 (x.r.cls : Int), .int .i64 x.r.n, .bool x.r.off] 56)
              have HBY := Lib.hid (hbi.trans (bx.mono hbi.size))
              obtain ⟨xb, hxb⟩ : ∃ xb, wr.heap.size = xb := ⟨_, rfl⟩
              clear hbi hx hxm bx
              go_upto_region 21 with (fail)
              revert KX HBY
              generalize wr.alloc (.cells #[.string x.r.nm, .slice x.A x.r.ms.length x.c, .int .u8 (x.r.cls : Int), .int .i64 x.r.n, .bool x.r.off] 56) = wy
              rw [hxb]
              intro KX HBY
              clear z0 z1 z2 z3 z4 hxb HBI
              go_wp2_with fail
              go_loopw [20, 111] (fun fv jv wr => ∃ j : Nat, j ≤ rs.length ∧ jv = .int .i64 (j : Int) ∧ fv = .bool ((rs.take j).any fun y => decide (y.r.nm = x.r.nm)) ∧ Below wy.heap.size wy wr) (fun _ jv _ => rs.length - (intOf jv).toNat)
              case atStart => exact ⟨0, Nat.zero_le _, rfl, rfl, Below.refl _ _⟩
              case round =>
                obtain ⟨j, hj, rfl, rfl, hbj⟩ := hrel
                have HBJ := Lib.hid hbj
                rcases Nat.lt_or_ge j rs.length with h2 | h2
                · have hjj : (j : Int) < (rs.length : Int) := by omega
                  have hj1 : IntKind.i64.wrap ((j : Int) + 1) = ((j + 1 : Nat) : Int) := by rw [IntWalk.i64_in _ (by omega)]; omega
                  obtain ⟨y, hy⟩ : ∃ y, rs[j]? = some y := ⟨_, List.getElem?_eq_getElem h2⟩
                  obtain ⟨bb, bo, rfl, y0, y1, y2, y3, y4⟩ := rep_at (HRB.out.off (S := []) (Off.of_below (HBY.out.trans (hbj.mono HBY.out.size))) (by simp)) hy
                  have htk : (rs.take (j + 1)).any (fun y => decide (y.r.nm = x.r.nm)) = ((rs.take j).any (fun y => decide (y.r.nm = x.r.nm)) || decide (y.r.nm = x.r.nm)) := by
                    rw [List.take_succ_eq_append_getElem h2, List.any_append]
                    rw [List.getElem?_eq_getElem h2] at hy
                    injection hy with hy
                    rw [hy]
                    simp
                  have HTK := Lib.hid htk
                  have hym : y.r ∈ rs.map RpM.r := List.mem_map.2 ⟨y, List.mem_of_getElem? hy, rfl⟩
                  have b7 := (Below.refl wr.heap.size wr).alloc (Nat.le_refl _) (.cells #[.string y.r.nm, .slice y.A y.r.ms.length y.c, .int .u8 (y.r.cls : Int), .int .i64 y.r.n, .bool y.r.off] 56)
                  have ky := BlkL.new wr [.string y.r.nm, .slice y.A y.r.ms.length y.c, .int .u8 (y.r.cls : Int), .int .i64 y.r.n, .bool y.r.off] 56
                  have kx := (KX.out.below hbj).below b7
                  have HB7 := Lib.hid (hbj.trans (b7.mono hbj.size))
                  have k0 := ky.cell 0 _ rfl
                  have k1 := ky.cell 1 _ rfl
                  have k2 := ky.cell 2 _ rfl
                  have k3 := ky.cell 3 _ rfl
                  have k4 := ky.cell 4 _ rfl
                  have x0 := kx.cell 0 _ rfl
                  have x1 := kx.cell 1 _ rfl
                  have x2 := kx.cell 2 _ rfl
                  have x3 := kx.cell 3 _ rfl
                  have x4 := kx.cell 4 _ rfl
                  obtain ⟨yb, hyb⟩ : ∃ yb, wr.heap.size = yb := ⟨_, rfl⟩
                  generalize hfq : ((rs.take j).any fun y => decide (y.r.nm = x.r.nm)) = fq at *
                  clear hbj hy htk b7 ky kx
                  by_cases hnm : y.r.nm = x.r.nm
                  · have hyx : y.r = x.r := same_name HNN.out hym HXM.out hnm
                    have hse := eqStr x.r.nm x.r.nm true (by simp)
                    have hee := eqEnd (x.r.cls : Int) x.r.n
                    have HTR : Hid ((rs.take (j + 1)).any (fun y => decide (y.r.nm = x.r.nm)) = true) := Lib.hid (by rw [HTK.out]; simp [hnm])
                    rw [hyx] at y0 y1 y2 y3 y4 k0 k1 k2 k3 k4 HB7 x0 x1 x2 x3 x4
                    clear hnm hyx hym hfq HTK
                    go_upto_region 25 with (fail)
                    revert HB7 k0 k1 k2 k3 k4 x0 x1 x2 x3 x4
                    generalize wr.alloc (.cells #[.string x.r.nm, .slice y.A x.r.ms.length y.c, .int .u8 (x.r.cls : Int), .int .i64 x.r.n, .bool x.r.off] 56) = wq
                    rw [hyb]
                    intro HB7 k0 k1 k2 k3 k4 x0 x1 x2 x3 x4
                    go_wp2
                    go_roundw
                    case rel => exact ⟨j + 1, by omega, rfl, by rw [HTR.out], HB7.out⟩
                    case measure => simp [intOf]; omega
                  · have hse := lstStr y.r.nm x.r.nm false (by simp [hnm])
                    have HTR : Hid ((rs.take (j + 1)).any (fun y => decide (y.r.nm = x.r.nm)) = fq) := Lib.hid (by rw [HTK.out]; simp [hnm])
                    clear hnm hym hfq HTK
                    go_upto_region 25 with (fail)
                    revert HB7 k0 k1 k2 k3 k4 x0 x1 x2 x3 x4
                    generalize wr.alloc (.cells #[.string y.r.nm, .slice y.A y.r.ms.length y.c, .int .u8 (y.r.cls : Int), .int .i64 y.r.n, .bool y.r.off] 56) = wq
                    rw [hyb]
                    intro HB7 k0 k1 k2 k3 k4 x0 x1 x2 x3 x4
                    go_wp2
                    go_roundw
                    case rel => exact ⟨j + 1, by omega, rfl, by rw [HTR.out], HB7.out⟩
                    case measure => simp [intOf]; omega
                · obtain rfl : j = rs.length := by omega
                  have hjj : ¬ (rs.length : Int) < (rs.length : Int) := by omega
                  have htr : ((rs.take rs.length).any fun y => decide (y.r.nm = x.r.nm)) = true := by
                    rw [List.take_length, List.any_eq_true]
                    obtain ⟨y, hy, he⟩ := List.mem_map.1 HXM.out
                    exact ⟨y, hy, by rw [he]; simp⟩
                  rw [htr]
                  have HBK := Lib.hid (HBY.out.trans (hbj.mono HBY.out.size))
                  clear hbj htr
                  go_wp2
                  go_roundw
                  case rel => exact ⟨i + 1, by omega, rfl, HBK.out⟩
                  case measure => simp [intOf]; omega
            · obtain rfl : i = rs.length := by omega
              have hii : ¬ (rs.length : Int) < (rs.length : Int) := by omega
              have HF1 := Lib.hid (HXF.out.below hbi)
              have HF2 := Lib.hid (HXG.out.below hbi)
              have HF3 := Lib.hid (HBB.out.trans (hbi.mono HBB.out.size))
              have hzz := hbi.size
              clear hbi
              go_wp2
              go_roundw
              case rel => exact ⟨n + 1, by omega, rfl, HF1.out, HF2.out, HF3.out, by omega⟩
              case measure => simp [intOf]; omega
        · have hnn : ¬ (n : Int) < 3 := by omega
          clear hXa hXb hbr
          go_wp2
          go_ret
          exact ⟨rfl, HBR.out⟩
end Go.Proofs.YtifldnkcheobhaaDoor
