/- guard: New of any hooks. -/
import Derived.Test.YtifldnkcheobhaaDoorGvE
namespace Go.Proofs.YtifldnkcheobhaaDoor
open Go.RowKit
set_option maxRecDepth 100000
set_option linter.unusedVariables false
set_option linter.unusedSimpArgs false
set_option maxHeartbeats 4000000

theorem newV_bad {l : List HookV} (h : checkV l ≠ 0) : newV l = checkV l := by
  unfold checkV at h ⊢
  unfold newV
  by_cases h1 : 32 < l.length
  · rw [if_pos h1, if_pos h1]
  · rw [if_neg h1] at h ⊢
    rw [if_neg h1, if_pos h]
theorem newV_good {l : List HookV} (h : checkV l = 0) : l.length ≤ 32 ∧ (∀ x ∈ l, chkF x.p = 0) ∧ (¬ (nms l).Nodup → newV l = 8) ∧ ((nms l).Nodup → newV l = if l.all (fun h => nameB h.nm) then 0 else 16) := by
  unfold checkV at h
  by_cases h1 : 32 < l.length
  · rw [if_pos h1] at h; cases h
  · rw [if_neg h1] at h
    refine ⟨by omega, leastF_zero h, fun hn => ?_, fun hn => ?_⟩
    · unfold newV; rw [if_neg h1, if_neg (by omega), if_neg hn]
    · unfold newV; rw [if_neg h1, if_neg (by omega), if_pos hn]
theorem cnt_info : (Tryd.prog.info? 89).map (fun i => (i.zero, i.size, i.bytes)) = some (some (.pointer none), 1, 8) := by kernel_rfl
theorem info_partsCnt : ∃ i0, Tryd.prog.info? 89 = some i0 ∧ i0.zero = some (.pointer none) ∧ i0.size = 1 ∧ i0.bytes = 8 := by
  have h := cnt_info
  cases hh : Tryd.prog.info? 89 with
  | none => rw [hh] at h; cases h
  | some i0 =>
    rw [hh] at h
    simp only [Option.map_some, Option.some.injEq, Prod.mk.injEq] at h
    exact ⟨i0, rfl, h.1, h.2.1, h.2.2⟩
theorem gmr_new (w : World) : GmR (w.alloc (.map #[] 0)) w.heap.size [] := by
  have hom := World.ownsMap_made w Tryd.prog 9 RV
  exact ⟨.map [], hom, Nat.le_refl _, fun nm _ => rfl, fun i nm h => by simp at h⟩
theorem nodup_take {l : List HookV} {i : Nat} {x : HookV} (hx : l[i]? = some x) (hm : x.nm ∈ nms (l.take i)) : ¬ (nms l).Nodup := by
  intro hn
  obtain ⟨j, hj⟩ := List.mem_iff_getElem?.1 hm
  rw [List.getElem?_map, List.getElem?_take] at hj
  split at hj
  · rename_i hji
    have e1 : (nms l)[j]? = some x.nm := by rw [List.getElem?_map]; exact hj
    have e2 : (nms l)[i]? = some x.nm := by rw [List.getElem?_map, hx]; rfl
    have := (List.getElem?_inj (by have := (List.getElem?_eq_some_iff.1 e1).1; exact this) hn).1 (e1.trans e2.symm)
    omega
  · simp at hj
theorem new_any (w : World) (B : Nat) (L : Value) (l : List HookV) (k : Int) (h : HksQ w B L l) (hB : B ≤ w.heap.size) (hr : ∀ x ∈ l, ProgR x.p) (hll : l.length ≤ 140737488355328) (hnm : ∀ x ∈ l, x.nm.size ≤ 140737488351232) (hk : 1 ≤ k ∧ k ≤ 1000) :
    Calls Tryd.prog 15 #[L, .int .i64 k] w fun e w' => ∃ v, e = .returned (.tuple #[v, .int .i64 (newV l : Int)]) ∧ NewP w w' l k v ∧ Below w.heap.size w w' := by
  have HCK := Lib.hid (guard_check_any w B L l k h hB hr hll hk)
  rcases Nat.eq_zero_or_pos (checkV l) with hz | hz
  rotate_left
  · have hv : newV l = checkV l := newV_bad (by omega)
    rw [hv]
    obtain ⟨cv, hcv⟩ : ∃ cv, checkV l = cv := ⟨_, rfl⟩
    rw [hcv] at hz hv HCK ⊢
    have HV := Lib.hid hv
    have hz0 : ¬ (cv : Int) = 0 := by omega
    have hz1 : ((cv : Int) != 0) = true := by simp; omega
    clear hv hcv
    obtain ⟨LA, lc, rfl, -, -⟩ := h
    go_enter Tryd.func15, Tryd.ntmps15
    go_wp2_with fail
    with_reducible refine HCK.out.mono ?_
    rintro e w1 ⟨rfl, hb1⟩
    have HB1 := Lib.hid hb1
    clear hb1
    go_wp2
    go_ret2
    exact ⟨_, rfl, Or.inl ⟨by rw [HV.out]; omega, rfl⟩, HB1.out⟩
  obtain ⟨hl32, hchk, hnd1, hnd2⟩ := newV_good hz
  rw [hz] at HCK
  have HCH := Lib.hid hchk
  have HN1 := Lib.hid hnd1
  have HN2 := Lib.hid hnd2
  have HR := Lib.hid hr
  have HNM := Lib.hid hnm
  have HH := Lib.hid h
  obtain ⟨LA, lc, rfl, h2, h3⟩ := h
  have H3 := Lib.hid h3
  have H2 := Lib.hid h2
  clear hr hnm hchk hnd1 hnd2 hz h2 h3
  obtain ⟨iC, hiC, hC0, hC1, hC2⟩ := info_partsCnt
  go_enter Tryd.func15, Tryd.ntmps15
  go_wp2_with fail
  with_reducible refine HCK.out.mono ?_
  rintro e w1 ⟨rfl, hb1⟩
  have HB1 := Lib.hid hb1
  clear hb1
  go_wp2_with fail
  rw [run_makeMap_plain]
  simp only [Result.andThen]
  rw [Oper.upon_value]
  have b2 : Below w1.heap.size w1 (w1.alloc (.map #[] 0)) := (Below.refl w1.heap.size w1).alloc (Nat.le_refl _) _
  have hm := gmr_new w1
  have hsz : (w1.alloc (.map #[] 0)).heap.size = w1.heap.size + 1 := by simp
  have B2 := Lib.hid (HB1.out.trans (b2.mono HB1.out.size))
  have hw1 := HB1.out.size
  clear b2
  revert hm hsz B2
  generalize w1.alloc (.map #[] 0) = w2
  generalize w1.heap.size = mb at *
  intro hm hsz B2
  have hx0 : RingX (w2.alloc (.cells #[.slice none 0 0, .map (some mb), .int .i64 k] 86)) w.heap.size (mb + 1) mb none 0 [] k [] (fun _ => 0) := by
    have kr := BlkL.new w2 [.slice none 0 0, .map (some mb), .int .i64 k] 86
    rw [hsz] at kr
    have b3 := (Below.refl w2.heap.size w2).alloc (Nat.le_refl _) (.cells #[.slice none 0 0, .map (some mb), .int .i64 k] 86)
    exact ⟨kr, OwnS.nil _ _ _, hm.below b3 (by omega), (fun i g hg => by simp at hg), ⟨by omega, by omega, by omega, by simp [bkV], by simp [bkV]⟩, (fun g hg => by cases hg), (fun g hg => by cases hg), by simp⟩
  have b3 := (Below.refl w2.heap.size w2).alloc (Nat.le_refl _) (.cells #[.slice none 0 0, .map (some mb), .int .i64 k] 86)
  have B3 := Lib.hid (B2.out.trans (b3.mono B2.out.size))
  have hs3 : (w2.alloc (.cells #[.slice none 0 0, .map (some mb), .int .i64 k] 86)).heap.size = mb + 2 := by simp; omega
  go_upto_region 5 with (fail)
  clear b3 hm
  revert hx0 B3 hs3
  generalize w2.alloc (.cells #[.slice none 0 0, .map (some mb), .int .i64 k] 86) = w3
  intro hx0 B3 hs3
  have HX0 := Lib.hid hx0
  clear hx0
  go_wp2_with fail
  go_loopw [27] (fun iv wr => ∃ i : Nat, i ≤ l.length ∧ iv = .int .i64 (i : Int) ∧ ∃ hA hc gs, RingX wr w.heap.size (mb + 1) mb hA hc gs k (gs.map GH.nm) (fun _ => 0) ∧ gs.map GH.hook = l.take i ∧ (nms (l.take i)).Nodup ∧ Below w.heap.size w wr) (fun iv _ => l.length - (intOf iv).toNat)
  case atStart => exact ⟨0, Nat.zero_le _, rfl, none, 0, [], HX0.out, rfl, by simp, B3.out⟩
  case round =>
    obtain ⟨i, hi, rfl, hA, hc, gs, hX, hgs, hnd, hb⟩ := hrel
    have HX := Lib.hid hX
    have HGS := Lib.hid hgs
    have HND := Lib.hid hnd
    have HB := Lib.hid hb
    have hgl : gs.length = i := by have := congrArg List.length hgs; simp at this; omega
    have hnn : gs.map GH.nm = nms (l.take i) := by rw [← hgs]; simp [nms]
    have HNN := Lib.hid hnn
    rcases Nat.lt_or_ge i l.length with h1 | h1
    · have hii : (i : Int) < (l.length : Int) := by omega
      have hi1 : IntKind.i64.wrap ((i : Int) + 1) = ((i + 1 : Nat) : Int) := by rw [IntWalk.i64_in _ (by omega)]; omega
      cases LA with
      | none => rw [H2.out rfl] at h1; simp at h1
      | some ad =>
        obtain ⟨ha, hab, hcl⟩ := H3.out ad rfl
        obtain ⟨x, hx⟩ : ∃ x, l[i]? = some x := ⟨l[i], List.getElem?_eq_getElem h1⟩
        obtain ⟨hF1, Pv, hF2, hF3⟩ := hcl i x hx
        obtain ⟨fb, fo, rfl⟩ : ∃ fb fo, ad = ⟨fb, fo, none⟩ := ⟨_, _, ha⟩
        simp only at hF1 hF2 hab
        have y0 := (hb.cell (p := ⟨fb, fo + i * 2, none⟩) (by show fb < _; omega)).trans hF1
        have y1 := (hb.cell (p := ⟨fb, fo + i * 2 + 1, none⟩) (by show fb < _; omega)).trans hF2
        have hxm := List.mem_of_getElem? hx
        have hpo := chkF_ok (HCH.out x hxm) (HR.out x hxm)
        have hns := HNM.out x hxm
        have htk : l.take (i + 1) = l.take i ++ [x] := by
          rw [List.take_succ_eq_append_getElem h1]
          rw [List.getElem?_eq_getElem h1] at hx
          injection hx with hx
          rw [hx]
        have HTK := Lib.hid htk
        have hdup : x.nm ∈ nms (l.take i) → ¬ (nms l).Nodup := nodup_take hx
        obtain ⟨PA, pc, rfl⟩ : ∃ PA pc, Pv = .slice PA x.p.length pc := by obtain ⟨A, c, h, _⟩ := hF3; exact ⟨A, c, h⟩
        obtain ⟨nm, pp⟩ := x
        simp only at hF1 hF2 hF3 y0 y1 hpo hns hdup
        have b4 := (Below.refl wr.heap.size wr).alloc (Nat.le_refl _) (.cells #[.string nm, .slice PA pp.length pc] 81)
        have r4 := hX.below b4.drew
        have kh := (BlkL.new wr [.string nm, .slice PA pp.length pc] 81)
        have q1 := (hX.blk.below b4).cell 1 _ rfl
        have ql := (hX.blk.below b4).lt
        have k0 := kh.cell 0 _ rfl
        have k1 := kh.cell 1 _ rfl
        have b04 : Below w.heap.size w (wr.alloc (.cells #[.string nm, .slice PA pp.length pc] 81)).drew := hb.trans (b4.drew.mono hb.size)
        have HP4 := Lib.hid (hF3.below (b04.mono hB))
        have HPO := Lib.hid hpo
        have HB4 := Lib.hid b04
        have HX4 := Lib.hid r4
        have hlt4 : wr.heap.size < (wr.alloc (.cells #[.string nm, .slice PA pp.length pc] 81)).heap.size := by simp
        by_cases hseen : nm ∈ gs.map GH.nm
        · have hnew : newV l = 8 := HN1.out (hdup (by rw [← HNN.out]; exact hseen))
          have HNEW := Lib.hid hnew
          obtain ⟨j, hj⟩ := List.mem_iff_getElem?.1 hseen
          have hlk := r4.map.some_ hj (by omega)
          clear hX hgs hnd hb hnn hcl ha hx hF1 hF2 hF3 htk hdup b04 hnew hseen hj hpo hxm b4 r4
          go_upto_region 8 with (fail)
          revert kh q1 ql k0 k1 HP4 HB4 HX4 hlt4 hlk
          generalize wr.alloc (.cells #[.string nm, .slice PA pp.length pc] 81) = w4
          intro kh q1 ql k0 k1 HP4 HB4 HX4 hlt4 hlk
          go_region
          go_wp2
          go_ret2
          exact ⟨_, by rw [HNEW.out] <;> rfl, Or.inl ⟨by rw [HNEW.out]; omega, rfl⟩, HB4.out⟩
        · have hlk := r4.map.none_ hseen (by omega)
          have HSEEN := Lib.hid hseen
          have hpp : pp.length ≤ 32 := hpo.len
          have hfp : ∀ f ∈ pp, f.length ≤ 64 := fun f hf => by
            obtain ⟨j, hj⟩ := List.mem_iff_getElem?.1 hf
            exact (hpo.acts j f hj).1
          have HC := Lib.hid (copied_any (wr.alloc (.cells #[.string nm, .slice PA pp.length pc] 81)).drew B nm (.slice PA pp.length pc) pp HP4.out (Nat.le_trans hB b04.size) (by omega) hpp hfp)
          clear hX hgs hnd hb hnn hcl ha hx hF1 hF2 hF3 htk hdup b04 hseen hpo hxm b4 r4 hfp
          go_upto_region 8 with (fail)
          revert kh q1 ql k0 k1 HP4 HB4 HX4 hlt4 hlk HC
          generalize wr.alloc (.cells #[.string nm, .slice PA pp.length pc] 81) = w4
          intro kh q1 ql k0 k1 HP4 HB4 HX4 hlt4 hlk HC
          go_region
          clear hlk q1 ql kh
          go_wp2_with fail
          with_reducible refine HC.out.mono ?_
          rintro e w5 ⟨A, c, rfl, ho, hb5⟩
          have hs5 := hb5.size
          clear k0 k1
          have b6 := (Below.refl w5.heap.size w5).alloc (Nat.le_refl _) (.cells #[.string nm, .slice A pp.length c] 81)
          have b46 := hb5.trans (b6.mono hb5.size)
          have X6 := HX4.out.below b46
          have kh := BlkL.new w5 [.string nm, .slice A pp.length c] 81
          have P6 := Lib.hid (ho.off (Nat.le_refl _) (Off.of_below (S := []) b6) (by simp))
          have B6 := Lib.hid (HB4.out.trans (b46.mono HB4.out.size))
          have hs4 : w4.drew.heap.size = w4.heap.size := rfl
          have hs6 : (w5.alloc (.cells #[.string nm, .slice A pp.length c] 81)).heap.size = w5.heap.size + 1 := by simp
          clear ho hb5 b6 b46
          go_upto_region 12 with (fail)
          revert X6 kh P6 B6 hs6
          generalize w5.alloc (.cells #[.string nm, .slice A pp.length c] 81) = w6
          intro X6 kh P6 B6 hs6
          have hd6 : RingX w6.drew w.heap.size (mb + 1) mb hA hc gs k (gs.map GH.nm) (fun _ => 0) := X6.below (Below.refl _ _).drew
          obtain ⟨w7, hup, m7, of7⟩ := hd6.map.put HSEEN.out (by omega) (by simp; omega)
          rw [List.length_map, hgl] at hup
          have q1 := X6.blk.cell 1 _ rfl
          have q1l := X6.blk.lt
          have k0 := kh.cell 0 _ rfl
          go_region
          have X7 := Lib.hid (hd6.put of7 m7)
          have of67 : Off [mb] w6 w7 := ((Off.refl [mb] w6).drew).trans of7
          have hs7 := of67.size
          have hml4 : mb + 1 < w4.drew.heap.size := HX4.out.blk.lt
          have hml : mb < w6.heap.size := X6.map.lt
          have k7 := kh.off of67 (by simp; omega)
          have P7 := Lib.hid (P6.out.off (by omega) of67 (by intro y hy; left; simp at hy; omega))
          have B7 := Lib.hid (B6.out.trans (of67.below (by have := B6.out.size; omega) (by simp; omega)))
          clear hup q1 q1l m7 of7 of67 X6 hd6 k0 kh
          have b8 := (Below.refl w7.heap.size w7).alloc (Nat.le_refl _) (.cells #[.string nm, .slice A pp.length c, .int .i64 0] 91)
          have b9 := b8.alloc (by simp) (.cells #[.pointer (some ⟨w7.heap.size, 0, none⟩)] 89)
          have hh9 := ((BlkL.new w7 [.string nm, .slice A pp.length c, .int .i64 0] 91).alloc (.cells #[.pointer (some ⟨w7.heap.size, 0, none⟩)] 89)).drew
          have sz8 : (w7.alloc (.cells #[.string nm, .slice A pp.length c, .int .i64 0] 91)).heap.size = w7.heap.size + 1 := by simp
          have src : SrcS ((w7.alloc (.cells #[.string nm, .slice A pp.length c, .int .i64 0] 91)).alloc (.cells #[.pointer (some ⟨w7.heap.size, 0, none⟩)] 89)).drew 1 (some ⟨w7.heap.size + 1, 0, none⟩) 1 [.pointer (some ⟨w7.heap.size, 0, none⟩)] := by
            have q := (BlkL.new (w7.alloc (.cells #[.string nm, .slice A pp.length c, .int .i64 0] 91)) [.pointer (some ⟨w7.heap.size, 0, none⟩)] 89).drew
            rw [sz8] at q
            exact BlkL.srcS q (by simp [Value.oneCell']) 1 rfl
          have HSRC := Lib.hid src
          have HH9 := Lib.hid hh9
          have HB9 := Lib.hid b9.drew
          have X9 := X7.out.below b9.drew
          have O9 := X9.own
          rw [hgl] at O9
          have HO9 := Lib.hid O9
          have R9 := Lib.hid X9.blk
          have hrA := X9.low.2.2.2.1
          have hbb : w.heap.size ≤ ((w7.alloc (.cells #[.string nm, .slice A pp.length c, .int .i64 0] 91)).alloc (.cells #[.pointer (some ⟨w7.heap.size, 0, none⟩)] 89)).drew.heap.size := Nat.le_trans B7.out.size b9.drew.size
          have r7 := X7.out.blk
          rw [hgl] at r7 R9
          have x0 := k7.cell 0 _ rfl
          have x1 := k7.cell 1 _ rfl
          have xl := k7.lt
          have y0 := r7.cell 0 _ rfl
          have yl := r7.lt
          have ya := (r7.alloc (.cells #[.string nm, .slice A pp.length c, .int .i64 0] 91)).cell 0 _ rfl
          have yb := ((r7.alloc (.cells #[.string nm, .slice A pp.length c, .int .i64 0] 91)).alloc (.cells #[.pointer (some ⟨w7.heap.size, 0, none⟩)] 89)).cell 0 _ rfl
          have xa0 := (k7.alloc (.cells #[.string nm, .slice A pp.length c, .int .i64 0] 91)).cell 0 _ rfl
          have xb0 := ((k7.alloc (.cells #[.string nm, .slice A pp.length c, .int .i64 0] 91)).alloc (.cells #[.pointer (some ⟨w7.heap.size, 0, none⟩)] 89)).cell 0 _ rfl
          have nq1 : ¬ w7.heap.size = mb + 1 := by omega
          have nq2 : ¬ mb + 1 = w7.heap.size := by omega
          have nq3 : ¬ w7.heap.size = w5.heap.size := by omega
          have nq4 : ¬ w5.heap.size = w7.heap.size := by omega
          have nq5 : ¬ w7.heap.size + 1 = mb + 1 := by omega
          have nq6 : ¬ w7.heap.size + 1 = w5.heap.size := by omega
          have nq7 : ¬ mb + 1 = w7.heap.size + 1 := by omega
          clear b8 b9 src hh9 r7 k7 X9 O9
          go_wp2_with fail
          go_region_law (refine step_append_s Tryd.underlying84 hiC hC0 hC1 hC2 rfl rfl (.tmp 56) (.tmp 60) rfl rfl HO9.out (some ⟨w7.heap.size + 1, 0, none⟩) 1 1 _ rfl HSRC.out (fun e => by cases e) (by omega) (by omega) hbb ?_; intro A3 c3 w8 ho8 hf8 hbk8; have r8 := R9.out.off hf8 hrA; have d0 := r8.cell 0 _ rfl; have df := r8.froz 0 (by simp); have dl := r8.lt)
          all_goals
            have hnew := RingX.snoc (w := w7) (w8 := w8) (g := ⟨nm, pp, w7.heap.size, .slice A pp.length c, w4.drew.heap.size, w5.heap.size⟩) (A3 := A3) (c3 := c3) X7.out B7.out.size P7.out (by show w5.heap.size ≤ w7.heap.size; omega) HB4.out.size rfl
              (fun y hy => Or.inl (by
                simp only [List.mem_cons] at hy
                rcases hy with rfl | rfl | hy
                · exact HX4.out.blk.lt
                · exact HX4.out.map.lt
                · exact (HX4.out.own.lt y hy).2)) HX4.out.ltB HB9.out HH9.out (by rw [hgl]; exact ho8) hf8 (fun y hy => (hbk8 y hy).imp id (fun q => by have := q.1; simp only [World.size_drew, World.size_alloc] at this ⊢; omega)) (by simp; omega)
            rw [hgl] at hnew
            have HNEW : Hid (RingX (w8.setCell ⟨mb + 1, 0, none⟩ (.slice A3 (i + 1) c3)) w.heap.size (mb + 1) mb A3 c3 (gs ++ [(⟨nm, pp, w7.heap.size, .slice A pp.length c, w4.drew.heap.size, w5.heap.size⟩ : GH)]) k ((gs ++ [(⟨nm, pp, w7.heap.size, .slice A pp.length c, w4.drew.heap.size, w5.heap.size⟩ : GH)]).map GH.nm) (fun _ => 0)) := Lib.hid (by rw [List.map_append]; exact hnew)
            have HG2 : Hid ((gs ++ [(⟨nm, pp, w7.heap.size, .slice A pp.length c, w4.drew.heap.size, w5.heap.size⟩ : GH)]).map GH.hook = l.take (i + 1)) := Lib.hid (by rw [HTK.out, List.map_append, HGS.out]; rfl)
            have HND2 : Hid (nms (l.take (i + 1))).Nodup := Lib.hid (by
              rw [HTK.out]
              unfold nms
              rw [List.map_append, List.nodup_append]
              refine ⟨HND.out, by simp, fun a ha b hb e => ?_⟩
              simp at hb
              subst hb
              subst e
              exact HSEEN.out (by rw [HNN.out]; exact ha))
            have HB10 : Hid (Below w.heap.size w (w8.setCell ⟨mb + 1, 0, none⟩ (.slice A3 (i + 1) c3))) := Lib.hid (((B7.out.trans (HB9.out.mono B7.out.size)).trans (hf8.below hbb (fun y hy => (X7.out.own.lt y hy).1))).setCell (show w.heap.size ≤ mb + 1 by omega) _)
            clear hnew ho8 hf8 hbk8 r8 d0 df dl
            go_wp2
            go_roundw
            case rel => exact ⟨i + 1, by omega, rfl, A3, c3, _, HNEW.out, HG2.out, HND2.out, HB10.out⟩
            case measure => simp [intOf]; omega
    · obtain rfl : i = l.length := by omega
      have hii : ¬ (l.length : Int) < (l.length : Int) := by omega
      have hgs' : gs.map GH.hook = l := by rw [hgs, List.take_length]
      have hnd' : (nms l).Nodup := by rw [List.take_length] at hnd; exact hnd
      have hv := HN2.out hnd'
      have HV := Lib.hid hv
      have HGL := Lib.hid hgs'
      have r0 := hX.blk.cell 0 _ rfl
      rw [hgl] at r0
      have rl := hX.blk.lt
      clear hX hgs hnd hb hnn hgs' hnd' hv
      go_upto_region 16 with (fail)
      generalize wr = wx at *
      go_wp2_with fail
      go_loopw [70] (fun iv wr => ∃ j : Nat, j ≤ l.length ∧ iv = .int .i64 (j : Int) ∧ RingX wr w.heap.size (mb + 1) mb hA hc gs k (gs.map GH.nm) (fun _ => 0) ∧ (l.take j).all (fun h => nameB h.nm) = true ∧ Below w.heap.size w wr) (fun iv _ => l.length - (intOf iv).toNat)
      case atStart => exact ⟨0, Nat.zero_le _, rfl, HX.out, rfl, HB.out⟩
      case round =>
        obtain ⟨j, hj, rfl, hX, hall, hb⟩ := hrel
        have HX2 := Lib.hid hX
        have HALL := Lib.hid hall
        have HB2 := Lib.hid hb
        rcases Nat.lt_or_ge j l.length with h2 | h2
        · have hjj : (j : Int) < (l.length : Int) := by omega
          have hj1 : IntKind.i64.wrap ((j : Int) + 1) = ((j + 1 : Nat) : Int) := by rw [IntWalk.i64_in _ (by omega)]; omega
          obtain ⟨g, hg⟩ : ∃ g, gs[j]? = some g := ⟨gs[j], List.getElem?_eq_getElem (by omega)⟩
          have hlj : l[j]? = some g.hook := by rw [← HGL.out, List.getElem?_map, hg]; rfl
          obtain ⟨ab, ao, rfl, -, -, hcl, -⟩ := hX.own.cell (by omega)
          have p0 := hcl j _ (by rw [List.getElem?_map, hg]; rfl)
          obtain ⟨kb, -, -, -⟩ := hX.hks j g hg
          obtain ⟨nm, pp, hkb, Pv, lo, hi'⟩ := g
          simp only at hlj p0 kb
          have k0 := kb.cell 0 _ rfl
          have kl := kb.lt
          have htk : l.take (j + 1) = l.take j ++ [⟨nm, pp⟩] := by
            rw [List.take_succ_eq_append_getElem h2]
            rw [List.getElem?_eq_getElem h2] at hlj
            injection hlj with hlj
            rw [hlj]
          have HTK := Lib.hid htk
          have HMEM := Lib.hid (List.mem_of_getElem? hlj)
          have HI := Lib.hid (isName_any wr nm)
          obtain ⟨nb, hnb⟩ : ∃ nb, nameB nm = nb := ⟨_, rfl⟩
          rw [hnb] at HI
          have HNB := Lib.hid hnb
          clear hX hall hb hg hlj hcl kb htk hnb
          cases nb with
          | true =>
            go_wp2_with fail
            with_reducible refine HI.out.mono ?_
            rintro e w5 ⟨rfl, hb5⟩
            have HX5 := Lib.hid (HX2.out.below hb5)
            have HB5 := Lib.hid (HB2.out.trans (hb5.mono HB2.out.size))
            have HA5 : Hid ((l.take (j + 1)).all (fun h => nameB h.nm) = true) := Lib.hid (by rw [HTK.out, List.all_append, HALL.out]; simp [HNB.out])
            clear hb5 k0 p0
            go_wp2
            go_roundw
            case rel => exact ⟨j + 1, by omega, rfl, HX5.out, HA5.out, HB5.out⟩
            case measure => simp [intOf]; omega
          | false =>
            have h16 : newV l = 16 := by
              rw [HV.out, if_neg]
              intro he
              have := List.all_eq_true.1 he _ HMEM.out
              simp only at this
              rw [HNB.out] at this
              cases this
            have H16 := Lib.hid h16
            clear h16
            go_wp2_with fail
            with_reducible refine HI.out.mono ?_
            rintro e w5 ⟨rfl, hb5⟩
            have HB5 := Lib.hid (HB2.out.trans (hb5.mono HB2.out.size))
            clear hb5 k0 p0
            go_wp2
            go_ret2
            exact ⟨_, by rw [H16.out] <;> rfl, Or.inl ⟨by rw [H16.out]; omega, rfl⟩, HB5.out⟩
        · obtain rfl : j = l.length := by omega
          have hjj : ¬ (l.length : Int) < (l.length : Int) := by omega
          have h0 : newV l = 0 := by
            rw [HV.out, if_pos]
            rw [List.take_length] at hall
            exact hall
          have H0 := Lib.hid h0
          clear hX hall hb h0
          go_wp2
          go_ret2
          exact ⟨_, by rw [H0.out] <;> rfl, Or.inr ⟨H0.out, mb + 1, mb, hA, hc, gs, rfl, HX2.out, HGL.out⟩, HB2.out⟩
end Go.Proofs.YtifldnkcheobhaaDoor
