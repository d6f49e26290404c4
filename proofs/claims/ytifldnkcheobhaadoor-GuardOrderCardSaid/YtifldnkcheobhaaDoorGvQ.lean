/- GuardApart: the walk. -/
import Derived.Test.YtifldnkcheobhaaDoorGvIP
namespace Go.Proofs.YtifldnkcheobhaaDoor
open Go.RowKit
set_option maxRecDepth 100000
set_option linter.unusedVariables false
set_option linter.unusedSimpArgs false
set_option maxHeartbeats 4000000

/-- Hooks that came in. -/
structure HksA (w : World) (L : Value) (l : List HookV) : Prop where
  q : HksW w w.heap.size L l
  s : HksS l
  r : ∀ x ∈ l, ProgR x.p
  nm : ∀ x ∈ l, x.nm.size ≤ 140737488351232
theorem HksA.len {w : World} {L : Value} {l : List HookV} (h : HksA w L l) : l.length ≤ 140737488355328 := by have := h.s.1; omega
/-- Two lists of the same marks. -/
theorem mk_at {w : World} {B c : Nat} {A : Option Addr} {l : List MarkV} (h : OwnS w B 3 A l.length c (FMk l)) {j : Nat} {x : MarkV} (hx : l[j]? = some x) :
    ∃ b o, A = some ⟨b, o, none⟩ ∧ w.cell? ⟨b, o + j * 3, none⟩ = some (.int .u8 (x.1 : Int)) ∧ w.cell? ⟨b, o + j * 3 + 1, none⟩ = some (.int .u8 (x.2.1 : Int)) ∧ w.cell? ⟨b, o + j * 3 + 2, none⟩ = some (.int .i64 x.2.2) := by
  have hj := (List.getElem?_eq_some_iff.1 hx).1
  obtain ⟨b, o, rfl, -, -, hcl, -⟩ := h.cell (by omega)
  obtain ⟨f0, f1, f2⟩ := FMk_at l j x hx
  exact ⟨b, o, rfl, hcl _ _ f0, by rw [Nat.add_assoc]; exact hcl _ _ f1, by rw [Nat.add_assoc]; exact hcl _ _ f2⟩
theorem rep_at {w : World} {B c : Nat} {A : Option Addr} {rs : List RpM} (h : RepsN w B A c rs) {i : Nat} {x : RpM} (hx : rs[i]? = some x) :
    ∃ b o, A = some ⟨b, o, none⟩ ∧ w.cell? ⟨b, o + i * 5, none⟩ = some (.string x.r.nm) ∧ w.cell? ⟨b, o + i * 5 + 1, none⟩ = some (.slice x.A x.r.ms.length x.c) ∧ w.cell? ⟨b, o + i * 5 + 2, none⟩ = some (.int .u8 (x.r.cls : Int)) ∧ w.cell? ⟨b, o + i * 5 + 3, none⟩ = some (.int .i64 x.r.n) ∧ w.cell? ⟨b, o + i * 5 + 4, none⟩ = some (.bool x.r.off) := by
  have hj := (List.getElem?_eq_some_iff.1 hx).1
  obtain ⟨b, o, rfl, -, -, hcl, -⟩ := h.1.cell (by omega)
  have f := FRp_at rs i x hx
  refine ⟨b, o, rfl, ?_, ?_, ?_, ?_, ?_⟩
  · exact hcl _ _ ((f 0 (by omega)).trans rfl)
  · rw [Nat.add_assoc]; exact hcl _ _ ((f 1 (by omega)).trans rfl)
  · rw [Nat.add_assoc]; exact hcl _ _ ((f 2 (by omega)).trans rfl)
  · rw [Nat.add_assoc]; exact hcl _ _ ((f 3 (by omega)).trans rfl)
  · rw [Nat.add_assoc]; exact hcl _ _ ((f 4 (by omega)).trans rfl)
theorem guardApart_walk {w0 : World} (L : Value) (l : List HookV) (strikes : Int) (times : Nat) (w : World) (h0 : Lib0 w0) (hb : Below w0.heap.size w0 w) (hL : HksA w L l) (ht : times < 256) :
    Calls Tryd.prog 8 #[L, .int .i64 strikes, .int .u8 (times : Int)] w fun e w' => e = .returned (.bool true) ∧ Below w.heap.size w w' := by
  obtain ⟨s, t, m1, -, -, -, -⟩ := umod strikes 5 (by omega) (by omega)
  obtain ⟨kk, hkk⟩ : ∃ kk, kk = s % 5 + 1 := ⟨_, rfl⟩
  have HKK : Hid (1 + (s : Int) % 5 = (kk : Int)) := Lib.hid (by omega)
  have hk1 : 1 ≤ kk ∧ kk ≤ 5 := by omega
  obtain ⟨q, hq⟩ : ∃ q, q = times % 6 := ⟨_, rfl⟩
  have HQ : Hid (1 + (times : Int) % 6 = ((q + 1 : Nat) : Int)) := Lib.hid (by omega)
  have hq6 : q ≤ 5 := by omega
  obtain ⟨LA, lc, rfl⟩ : ∃ LA lc, L = .slice LA l.length lc := by obtain ⟨A, c, h, _⟩ := hL.q; exact ⟨A, c, h⟩
  have HL := Lib.hid hL
  have HAW := Lib.hid (awake10_any h0 hb)
  have HBW := Lib.hid hb
  have hlen := hL.len
  clear hL hb hkk hq
  go_enter Tryd.func8, Tryd.ntmps8
  go_wp2_with fail
  with_reducible refine HAW.out.mono ?_
  rintro e w1 ⟨rfl, hb1⟩
  have HB1 := Lib.hid hb1
  have HH := Lib.hid (hooks10_any w1 w.heap.size _ l (HL.out.q.below hb1) hb1.size HL.out.s)
  clear hb1
  go_wp2_with fail
  with_reducible refine HH.out.mono ?_
  rintro e w2 ⟨A2, c2, rfl, ⟨vs, hN⟩, hb2⟩
  have HB2 := Lib.hid (HB1.out.trans (hb2.mono HB1.out.size))
  have HNW := Lib.hid (new_any w2 w2.heap.size _ l (kk : Int) hN.q (Nat.le_refl _) HL.out.r HL.out.len HL.out.nm (by omega))
  clear hN hb2
  go_wp2_with fail
  rw [HKK.out]
  with_reducible refine HNW.out.mono ?_
  rintro e w3 ⟨v, rfl, hNP, hb3⟩
  have HB3 := Lib.hid (HB2.out.trans (hb3.mono HB2.out.size))
  rcases hNP with ⟨hz, rfl⟩ | ⟨hz, rb, mb, hA, hc, gs, rfl, hX, hgs⟩
  · obtain ⟨r, hr⟩ : ∃ r, newV l = r := ⟨_, rfl⟩
    rw [hr] at hz ⊢
    have z1 : ((r : Int) != 0) = true := by simp; omega
    have z2 : ¬ (r : Int) = 0 := by omega
    clear hb3 hr hz
    go_wp2
    go_ret
    exact ⟨rfl, HB3.out⟩
  rw [hz]
  obtain ⟨hl32, hchk, -, -⟩ := newV_zero hz
  have HCH := Lib.hid hchk
  have HGS := Lib.hid hgs
  have hgl : gs.length = l.length := by rw [← hgs, List.length_map]
  have hX' : RingX w3 w2.heap.size rb mb hA hc gs (kk : Int) (gs.map GH.nm) (stA gs kk 1) := by rw [stA_one]; exact hX
  have HX := Lib.hid hX'
  have hpo : ∀ g ∈ gs, ProgOk g.p := fun g hg => by
    have : g.hook ∈ l := by rw [← hgs]; exact List.mem_map.2 ⟨g, hg, rfl⟩
    exact chkF_ok (hchk _ this) (HL.out.r _ this)
  have HPO := Lib.hid hpo
  have hw2 : w.heap.size ≤ w2.heap.size := HB2.out.size
  clear hb3 hX hz hchk hgs hX' hpo
  go_wp2_with fail
  go_loopw [9] (fun nv wr => ∃ n : Nat, 1 ≤ n ∧ n ≤ q + 2 ∧ nv = .int .i64 (n : Int) ∧ RingX wr w2.heap.size rb mb hA hc gs (kk : Int) (gs.map GH.nm) (stA gs kk n) ∧ Below w.heap.size w wr) (fun nv _ => q + 2 - (intOf nv).toNat)
  case atStart => exact ⟨1, by omega, by omega, rfl, HX.out, HB3.out⟩
  case round =>
    obtain ⟨n, hn1, hn2, rfl, hX, hb⟩ := hrel
    have HXX := Lib.hid hX
    have HB := Lib.hid hb
    rcases Nat.lt_or_ge (q + 1) n with hn | hn
    · have hnn : ¬ (n : Int) ≤ 1 + (times : Int) % 6 := by rw [HQ.out]; omega
      clear hX hb
      go_wp2
      go_ret
      exact ⟨rfl, HB.out⟩
    · have hnn : (n : Int) ≤ 1 + (times : Int) % 6 := by rw [HQ.out]; omega
      have hnp : IntKind.i64.wrap ((n : Int) + 1) = ((n + 1 : Nat) : Int) := by rw [IntWalk.i64_in _ (by omega)]; omega
      have hbw0 : Below w0.heap.size w0 wr := HBW.out.trans (hb.mono HBW.out.size)
      have HFI := Lib.hid (Fire_any h0 hbw0 hX (Nat.le_trans HBW.out.size hw2) HPO.out (fun i => stA_nonneg gs kk n i (by omega)) (by omega))
      rw [after_A gs kk n (by omega) hn1] at HFI
      clear hX hb hbw0
      generalize wr = wx at *
      go_wp2_with fail
      with_reducible refine HFI.out.mono ?_
      rintro e w4 ⟨A', c', m, rfl, ⟨rs, rfl, hR, hrs⟩, hX4, hof⟩
      have HR := Lib.hid hR
      have HRS := Lib.hid hrs
      have HX4 := Lib.hid hX4
      have hrl : rs.length = (firesV gs (stA gs kk n) (kk : Int) gs.length).length := by have := congrArg List.length hrs; rw [List.length_map] at this; exact this
      have HB4 : Hid (Below w.heap.size w w4) := Lib.hid (HB.out.trans (hof.below HB.out.size (fun x hx => by obtain ⟨g, hg, rfl⟩ := List.mem_map.1 hx; exact Nat.le_trans hw2 (HXX.out.sep g hg).1)))
      have hrle : rs.length ≤ 32 := by rw [hrl]; exact Nat.le_trans (fires_le _ _ _ _) (by omega)
      have HRL := Lib.hid hrl
      clear hR hrs hX4 hof hrl
      go_wp2_with fail
      go_loopw [12, 57] (fun kv iv wr => ∃ i : Nat, i ≤ l.length ∧ iv = .int .i64 (i : Int) ∧ kv = .int .i64 ((firesV gs (stA gs kk n) (kk : Int) i).length : Int) ∧ Below w4.heap.size w4 wr) (fun _ iv _ => l.length - (intOf iv).toNat)
      case atStart => exact ⟨0, Nat.zero_le _, rfl, rfl, Below.refl _ _⟩
      case round =>
        obtain ⟨i, hi, rfl, rfl, hb5⟩ := hrel
        have HB5 := Lib.hid hb5
        rcases Nat.lt_or_ge i l.length with h1 | h1
        · have hii : (i : Int) < (l.length : Int) := by omega
          have hi1 : IntKind.i64.wrap ((i : Int) + 1) = ((i + 1 : Nat) : Int) := by rw [IntWalk.i64_in _ (by omega)]; omega
          have hwb : Below w.heap.size w wr := HB4.out.trans (hb5.mono HB4.out.size)
          obtain ⟨LA', lc', he, hn0, hcl0⟩ := HL.out.q
          injection he with he1 he2 he3
          cases LA with
          | none => subst he1; rw [hn0 rfl] at h1; simp at h1
          | some ad =>
            subst he1
            obtain ⟨ha, hab, hcl⟩ := hcl0 ad rfl (by omega)
            obtain ⟨fb, fo, rfl⟩ : ∃ fb fo, ad = ⟨fb, fo, none⟩ := ⟨_, _, ha⟩
            obtain ⟨g, hg⟩ : ∃ g, gs[i]? = some g := ⟨gs[i], List.getElem?_eq_getElem (by omega)⟩
            have hx : l[i]? = some g.hook := by rw [← HGS.out, List.getElem?_map, hg]; rfl
            obtain ⟨hF1, Pv, hF2, hF3⟩ := hcl i g.hook hx
            simp only at hF1 hF2 hF3 hab
            have y0 := (hwb.cell (p := ⟨fb, fo + i * 2, none⟩) (by show fb < _; omega)).trans hF1
            have y1 := (hwb.cell (p := ⟨fb, fo + i * 2 + 1, none⟩) (by show fb < _; omega)).trans hF2
            have hxm := List.mem_of_getElem? hx
            have hpg := HPO.out g (List.mem_of_getElem? hg)
            have hns : g.nm.size ≤ 140737488351232 := HL.out.nm g.hook hxm
            have hps : ProgS g.p := HL.out.s.2 g.hook hxm
            obtain ⟨PA, pc, rfl⟩ : ∃ PA pc, Pv = .slice PA g.p.length pc := by obtain ⟨A, c, h, _⟩ := hF3; exact ⟨A, c, h⟩
            have b6 := (Below.refl wr.heap.size wr).alloc (Nat.le_refl _) (.cells #[.string g.nm, .slice PA g.p.length pc] 53)
            have kh := BlkL.new wr [.string g.nm, .slice PA g.p.length pc] 53
            have hw6 := hwb.trans (b6.mono hwb.size)
            have HP := Lib.hid (prog10_any (wr.alloc (.cells #[.string g.nm, .slice PA g.p.length pc] 53)) w.heap.size _ g.p (hF3.below hw6) hw6.size hps)
            have hb6 := hb5.trans (b6.mono hb5.size)
            have HB6 := Lib.hid hb6
            have HW6 := Lib.hid hw6
            have HG := Lib.hid hg
            have HPG := Lib.hid hpg
            have hlt6 : wr.heap.size < (wr.alloc (.cells #[.string g.nm, .slice PA g.p.length pc] 53)).heap.size := by simp
            have x1 := kh.cell 1 _ rfl
            obtain ⟨f1, f2⟩ := fire_A gs kk n i (by omega) hn1 g hg
            have F1 := Lib.hid f1
            have F2 := Lib.hid f2
            clear ha hcl hx hF1 hF2 hF3 hg hwb hpg hxm b6 hw6 hb5 hb6 f1 f2 he2 he3 hn0 hcl0
            go_upto_region 17 with (fail)
            revert kh HP HB6 HW6 hlt6 x1
            generalize wr.alloc (.cells #[.string g.nm, .slice PA g.p.length pc] 53) = w6
            intro kh HP HB6 HW6 hlt6 x1
            have KH := Lib.hid kh
            clear kh
            go_wp2_with fail
            with_reducible refine HP.out.mono ?_
            rintro e w7 ⟨A7, c7, rfl, hq7, hb7⟩
            have HB7 := Lib.hid (HB6.out.trans (hb7.mono HB6.out.size))
            have HW7 := Lib.hid (HW6.out.trans (hb7.mono HW6.out.size))
            have HRN := Lib.hid (run_ok h0 (HBW.out.trans (HW7.out.mono HBW.out.size)) (hq7.q (Nat.le_refl _) (Nat.le_refl _)) HPG.out)
            have KH7 := Lib.hid (KH.out.below (hb7.mono (by omega)))
            clear hb7 hq7 x1
            go_wp2_with fail
            with_reducible refine HRN.out.mono ?_
            rintro e w8 ⟨A8, c8, rfl, ho8, hb8⟩
            have ho9 : noneV (runP g.p).out = outV g.p := rfl
            rw [ho9]
            obtain ⟨ec, hec⟩ : ∃ ec, (outV g.p).1 = ec := ⟨_, rfl⟩
            obtain ⟨en, hen⟩ : ∃ en, (outV g.p).2 = en := ⟨_, rfl⟩
            obtain ⟨ms, hms⟩ : ∃ ms, (runP g.p).st.marks = ms := ⟨_, rfl⟩
            obtain ⟨bd, hbd⟩ : ∃ bd, badV g.p = bd := ⟨_, rfl⟩
            have hbe : ((ec : Int) != 0) = bd := by rw [← hec, ← hbd]; exact (bad_iff g.p).symm
            rw [hms] at ho8
            rw [hec, hen, hms]
            rw [hec, hen, hms] at F2
            rw [hbd] at F1 F2
            have b9 := (Below.refl w8.heap.size w8).alloc (Nat.le_refl _) (.cells #[.int .u8 (ec : Int), .int .i64 en] 26)
            have ke := BlkL.new w8 [.int .u8 (ec : Int), .int .i64 en] 26
            have HB9 := Lib.hid (HB7.out.trans ((hb8.trans (b9.mono hb8.size)).mono HB7.out.size))
            have HW9 := Lib.hid (HW7.out.trans ((hb8.trans (b9.mono hb8.size)).mono HW7.out.size))
            have KH9 := Lib.hid (KH7.out.below (hb8.trans (b9.mono hb8.size)))
            have HO9 := Lib.hid (ho8.below b9)
            have KE := Lib.hid ke
            have e0 := ke.cell 0 _ rfl
            have e1 := ke.cell 1 _ rfl
            have HBE := Lib.hid hbe
            have HBD := Lib.hid hbd
            clear ho8 hb8 b9 ke hec hen hms hbd hbe ho9
            go_upto_region 18 with (fail)
            revert HB9 HW9 KH9 HO9 KE e0 e1
            generalize w8.alloc (.cells #[.int .u8 (ec : Int), .int .i64 en] 26) = w9
            intro HB9 HW9 KH9 HO9 KE e0 e1
            go_upto_region 21 with (fail)
            rw [HBE.out]
            by_cases hA : bd = true ∧ kk < n
            · obtain ⟨rfl, hkn⟩ := hA
              have hkn' : (kk : Int) < (n : Int) := by omega
              have hlen : (firesV gs (stA gs kk n) (kk : Int) (i + 1)).length = (firesV gs (stA gs kk n) (kk : Int) i).length := by rw [firesV_succ, F1.out ⟨rfl, hkn⟩, List.append_nil]
              have HLEN := Lib.hid hlen
              clear hlen
              go_wp2
              go_roundw
              case rel => exact ⟨i + 1, by omega, rfl, by rw [HLEN.out], HB9.out⟩
              case measure => simp [intOf]; omega
            · have hf := F2.out hA
              have hat := fires_at gs _ _ i _ hf gs.length (by omega)
              rw [← HRS.out, List.getElem?_map] at hat
              obtain ⟨R, hR1, hR2⟩ : ∃ R, rs[(firesV gs (stA gs kk n) (kk : Int) i).length]? = some R ∧ R.r = ⟨g.nm, ms, ec, en, bd && decide (n = kk)⟩ := by
                cases hq : rs[(firesV gs (stA gs kk n) (kk : Int) i).length]? with
                | none => rw [hq] at hat; simp at hat
                | some R => rw [hq] at hat; simp at hat; exact ⟨R, rfl, hat⟩
              have hlen : (firesV gs (stA gs kk n) (kk : Int) (i + 1)).length = (firesV gs (stA gs kk n) (kk : Int) i).length + 1 := by rw [firesV_succ, hf]; simp
              obtain ⟨kx, hkx⟩ : ∃ kx, (firesV gs (stA gs kk n) (kk : Int) i).length = kx := ⟨_, rfl⟩
              rw [hkx] at hR1 hlen ⊢
              have hkl := (List.getElem?_eq_some_iff.1 hR1).1
              have HLEN := Lib.hid hlen
              obtain ⟨RC, RA, Rc⟩ := R
              simp only at hR2
              subst hR2
              have hR9 : RepsN w9 wx.heap.size A' c' rs := HR.out.off (S := []) (Off.of_below HB9.out) (by simp)
              have HR9 := Lib.hid hR9
              obtain ⟨ab, ao, rfl, z0, z1, z2, z3, z4⟩ := rep_at hR9 hR1
              simp only at z0 z1 z2 z3 z4
              have HM9 := Lib.hid (hR9.2 _ (List.mem_of_getElem? hR1)).1
              have z5 := KH9.out.cell 0 _ rfl
              have z6 : ¬ (rs.length : Int) ≤ (kx : Int) := by omega
              have z7 : (kx : Int) < (rs.length : Int) := by omega
              have z8 := neqEnd (ec : Int) en
              have hst : stA gs kk (n + 1) i = if bd = true then (n : Int) else 0 := by
                unfold stA
                rw [HG.out]
                simp only
                rw [HBD.out]
                cases hbq : bd with
                | false => rfl
                | true =>
                  simp only [if_true]
                  have : ¬ kk < n := fun e => hA ⟨hbq, e⟩
                  omega
              clear hat hf hkx hR1 hlen hR9
              obtain ⟨ob, eb, ob1, ob4, ob2, ob3⟩ : ∃ ob eb : Bool, (bd && decide (n = kk)) = ob ∧ ((n : Int) == (kk : Int)) = eb ∧ (bd = true → eb = ob) ∧ (bd = false → ob = false) := ⟨_, _, rfl, rfl, fun h => by rw [h]; simp; rw [Bool.eq_iff_iff]; simp; omega, fun h => by rw [h]; rfl⟩
              rw [ob1] at z4
              have hA2 : bd = true → ¬ (kk : Int) < (n : Int) := fun h e => hA ⟨h, by omega⟩
              clear hA
              have hlm : ms.length ≤ 9223372036854775807 := by have h1 := HO9.out.le; have h2 := HO9.out.cap; unfold maxLen at h2; omega
              rcases bd with _ | _
              · obtain rfl := ob3 rfl
                have HSA : Hid (stA gs kk (n + 1) i = 0) := Lib.hid (by rw [hst]; rfl)
                clear hst ob2 ob3 ob4 hA2
                go_upto_region 22 with (fail)
                go_region
                have HB10 := Lib.hid (HB9.out.drew)
                have HM10 := Lib.hid (HM9.out.below (Below.refl _ _).drew)
                have HO10 := Lib.hid (HO9.out.below (Below.refl _ _).drew)
                have HST10 : Hid (∀ t, Calls Tryd.prog 19 #[.pointer (some ⟨rb, 0, none⟩), .string g.nm] (w9.drew.drewN t) fun e w' => e = .returned (.tuple #[.int .i64 (stA gs kk (n + 1) i), .int .i64 0]) ∧ w' = w9.drew.drewN t) := Lib.hid (fun t => strikes_any (HX4.out.below ((below_drewN HB9.out.drew t))) HG.out hns)
                rw [HSA.out] at HST10
                have v0 : w9.drew.cell? ⟨ab, ao + kx * 5 + 1, none⟩ = some (.slice RA ms.length Rc) := z1
                have v1 : w9.drew.cell? ⟨wr.heap.size, 0, none⟩ = some (.string g.nm) := z5
                clear z0 z1 z2 z3 z4 z5 z6 z8 e0 e1 y0 y1
                revert HB10 HM10 HO10 HST10 v0 v1
                generalize w9.drew = wy
                intro HB10 HM10 HO10 HST10 v0 v1
                go_wp2_with fail
                go_loopw [130] (fun jv wr => ∃ j : Nat, j ≤ ms.length ∧ jv = .int .i64 (j : Int) ∧ ∃ t, wr = wy.drewN t) (fun jv _ => ms.length - (intOf jv).toNat)
                case atStart => exact ⟨0, Nat.zero_le _, rfl, 0, rfl⟩
                case round =>
                  obtain ⟨j, hj, rfl, td, rfl⟩ := hrel
                  rcases Nat.lt_or_ge j ms.length with h2 | h2
                  · have hjj : (j : Int) < (ms.length : Int) := by omega
                    have hj1 : IntKind.i64.wrap ((j : Int) + 1) = ((j + 1 : Nat) : Int) := by rw [IntWalk.i64_in _ (by omega)]; omega
                    obtain ⟨⟨mk, mc, mn⟩, hx⟩ : ∃ x, ms[j]? = some x := ⟨ms[j], List.getElem?_eq_getElem h2⟩
                    obtain ⟨b1, o1, rfl, a0, a1, a2⟩ := mk_at (HM10.out.below (below_drewN (Below.refl _ _) td)) hx
                    obtain ⟨b2, o2, rfl, c0, c1, c2⟩ := mk_at (HO10.out.below (below_drewN (Below.refl _ _) td)) hx
                    simp only at a0 a1 a2 c0 c1 c2
                    have v2 : (wy.drewN td).cell? ⟨ab, ao + kx * 5 + 1, none⟩ = some (.slice (some ⟨b1, o1, none⟩) ms.length Rc) := v0
                    have hm := neqMark (mk : Int) (mc : Int) mn
                    clear hx
                    generalize hwt : wy.drewN td = wt at *
                    go_upto_region 27 with (fail)
                    go_region
                    go_wp2
                    go_roundw
                    case rel => exact ⟨j + 1, by omega, rfl, td + 1, by rw [← hwt]; rfl⟩
                    case measure => simp [intOf]; omega
                  · obtain rfl : j = ms.length := by omega
                    have hjj : ¬ (ms.length : Int) < (ms.length : Int) := by omega
                    have hkp : IntKind.i64.wrap ((kx : Int) + 1) = ((kx + 1 : Nat) : Int) := by rw [IntWalk.i64_in _ (by omega)]; omega
                    have HS := Lib.hid (HST10.out td)
                    have HB11 := Lib.hid (below_drewN HB10.out td)
                    have v3 : (wy.drewN td).cell? ⟨wr.heap.size, 0, none⟩ = some (.string g.nm) := v1
                    generalize wy.drewN td = wt at *
                    go_wp2_with fail
                    with_reducible refine HS.out.mono ?_
                    rintro e w11 ⟨rfl, rfl⟩
                    go_wp2
                    go_roundw
                    case rel => exact ⟨i + 1, by omega, rfl, by rw [HLEN.out]; push_cast; rfl, HB11.out⟩
                    case measure => simp [intOf]; omega
              · obtain rfl := ob2 rfl
                have HSA : Hid (stA gs kk (n + 1) i = (n : Int)) := Lib.hid (by rw [hst]; rfl)
                have hA3 := hA2 rfl
                have n0 : ((n : Int) != 0) = true := by simp; omega
                have n9 : ((n : Int) != (n : Int)) = false := by simp
                clear hst ob2 ob3 hA2
                rcases eb with _ | _
                all_goals
                  go_upto_region 22 with (fail)
                  go_region
                  have HB10 := Lib.hid (HB9.out.drew)
                  have HM10 := Lib.hid (HM9.out.below (Below.refl _ _).drew)
                  have HO10 := Lib.hid (HO9.out.below (Below.refl _ _).drew)
                  have HST10 : Hid (∀ t, Calls Tryd.prog 19 #[.pointer (some ⟨rb, 0, none⟩), .string g.nm] (w9.drew.drewN t) fun e w' => e = .returned (.tuple #[.int .i64 (stA gs kk (n + 1) i), .int .i64 0]) ∧ w' = w9.drew.drewN t) := Lib.hid (fun t => strikes_any (HX4.out.below ((below_drewN HB9.out.drew t))) HG.out hns)
                  rw [HSA.out] at HST10
                  have v0 : w9.drew.cell? ⟨ab, ao + kx * 5 + 1, none⟩ = some (.slice RA ms.length Rc) := z1
                  have v1 : w9.drew.cell? ⟨wr.heap.size, 0, none⟩ = some (.string g.nm) := z5
                  clear z0 z1 z2 z3 z4 z5 z6 z8 e0 e1 y0 y1
                  revert HB10 HM10 HO10 HST10 v0 v1
                  generalize w9.drew = wy
                  intro HB10 HM10 HO10 HST10 v0 v1
                  go_wp2_with fail
                  go_loopw [130] (fun jv wr => ∃ j : Nat, j ≤ ms.length ∧ jv = .int .i64 (j : Int) ∧ ∃ t, wr = wy.drewN t) (fun jv _ => ms.length - (intOf jv).toNat)
                  case atStart => exact ⟨0, Nat.zero_le _, rfl, 0, rfl⟩
                  case round =>
                    obtain ⟨j, hj, rfl, td, rfl⟩ := hrel
                    rcases Nat.lt_or_ge j ms.length with h2 | h2
                    · have hjj : (j : Int) < (ms.length : Int) := by omega
                      have hj1 : IntKind.i64.wrap ((j : Int) + 1) = ((j + 1 : Nat) : Int) := by rw [IntWalk.i64_in _ (by omega)]; omega
                      obtain ⟨⟨mk, mc, mn⟩, hx⟩ : ∃ x, ms[j]? = some x := ⟨ms[j], List.getElem?_eq_getElem h2⟩
                      obtain ⟨b1, o1, rfl, a0, a1, a2⟩ := mk_at (HM10.out.below (below_drewN (Below.refl _ _) td)) hx
                      obtain ⟨b2, o2, rfl, c0, c1, c2⟩ := mk_at (HO10.out.below (below_drewN (Below.refl _ _) td)) hx
                      simp only at a0 a1 a2 c0 c1 c2
                      have v2 : (wy.drewN td).cell? ⟨ab, ao + kx * 5 + 1, none⟩ = some (.slice (some ⟨b1, o1, none⟩) ms.length Rc) := v0
                      have hm := neqMark (mk : Int) (mc : Int) mn
                      clear hx
                      generalize hwt : wy.drewN td = wt at *
                      go_upto_region 27 with (fail)
                      go_region
                      go_wp2
                      go_roundw
                      case rel => exact ⟨j + 1, by omega, rfl, td + 1, by rw [← hwt]; rfl⟩
                      case measure => simp [intOf]; omega
                    · obtain rfl : j = ms.length := by omega
                      have hjj : ¬ (ms.length : Int) < (ms.length : Int) := by omega
                      have hkp : IntKind.i64.wrap ((kx : Int) + 1) = ((kx + 1 : Nat) : Int) := by rw [IntWalk.i64_in _ (by omega)]; omega
                      have HS := Lib.hid (HST10.out td)
                      have HB11 := Lib.hid (below_drewN HB10.out td)
                      have v3 : (wy.drewN td).cell? ⟨wr.heap.size, 0, none⟩ = some (.string g.nm) := v1
                      generalize wy.drewN td = wt at *
                      go_wp2_with fail
                      with_reducible refine HS.out.mono ?_
                      rintro e w11 ⟨rfl, rfl⟩
                      go_wp2
                      go_roundw
                      case rel => exact ⟨i + 1, by omega, rfl, by rw [HLEN.out]; push_cast; rfl, HB11.out⟩
                      case measure => simp [intOf]; omega
        · obtain rfl : i = l.length := by omega
          have hii : ¬ (l.length : Int) < (l.length : Int) := by omega
          have hkl : (firesV gs (stA gs kk n) (kk : Int) l.length).length = rs.length := by rw [HRL.out, hgl]
          rw [hkl]
          clear hkl
          have hne : ((rs.length : Int) != (rs.length : Int)) = false := by simp
          have HX5 := Lib.hid (HX4.out.below hb5)
          have HB6 := Lib.hid (HB4.out.trans (hb5.mono HB4.out.size))
          clear hb5
          go_wp2
          go_roundw
          case rel => exact ⟨n + 1, by omega, by omega, rfl, HX5.out, HB6.out⟩
          case measure => simp [intOf]; omega
end Go.Proofs.YtifldnkcheobhaaDoor
