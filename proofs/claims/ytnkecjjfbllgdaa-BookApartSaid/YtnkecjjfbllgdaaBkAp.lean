/- BookApart: the walk. -/
import Derived.Test.YtnkecjjfbllgdaaBkTop
import Derived.Deep.QuietTactic
import Derived.BigQuiet
import Derived.Deep.DeepCutAuto
namespace Go.Proofs.Ytnkecjjfbllgdaa
open Go.RowKit Go.Maps
set_option maxRecDepth 100000
set_option linter.unusedVariables false

/-- Where the two books stand. -/
structure ApR (w0 w : World) (xa xb ma mb : Nat) (A1 A2 : Option Addr) (c1 c2 j : Nat) (z0 : List Nat) : Prop where
  low : Below w0.heap.size w0 w
  ne : ma ≠ mb
  ga : w0.heap.size ≤ ma
  gb : w0.heap.size ≤ mb
  st : ∃ ka kb Ma Mb, BkX w xa A1 2 c1 tabL 4096 ma ka Ma ∧ BkX w xb A2 2 c2 tabL 4096 mb kb Mb ∧ ka ≤ j ∧ kb ≤ j ∧ ∀ z, Mb z = if z = z0 then Ma z else none

theorem ApR.mk2 {w0 w w' : World} {xa xb ma mb ka kb j : Nat} {A1 A2 : Option Addr} {c1 c2 : Nat} {z0 : List Nat} {Ma Mb : BkMap} (hl : Below w0.heap.size w0 w) (hb : Below w.heap.size w w') (ne : ma ≠ mb) (ga : w0.heap.size ≤ ma) (gb : w0.heap.size ≤ mb)
    (hA : BkX w xa A1 2 c1 tabL 4096 ma ka Ma) (hB : BkX w xb A2 2 c2 tabL 4096 mb kb Mb) (h1 : ka ≤ j) (h2 : kb ≤ j) (hz : ∀ z, Mb z = if z = z0 then Ma z else none) : ApR w0 w' xa xb ma mb A1 A2 c1 c2 j z0 :=
  ⟨hl.trans (hb.mono hl.size), ne, ga, gb, ⟨ka, kb, Ma, Mb, hA.below hb, hB.below hb, h1, h2, hz⟩⟩
theorem ApR.mk3 {w0 w w' : World} {xa xb ma mb ka kb kb0 j : Nat} {A1 A2 : Option Addr} {c1 c2 : Nat} {z0 : List Nat} {Ma Mb Mb0 : BkMap} (hl : Below w0.heap.size w0 w) (ne : ma ≠ mb) (ga : w0.heap.size ≤ ma) (gb : w0.heap.size ≤ mb)
    (hA : BkX w xa A1 2 c1 tabL 4096 ma ka Ma) (hB0 : BkX w xb A2 2 c2 tabL 4096 mb kb0 Mb0) (ho : Off [mb] w w') (hB : BkX w' xb A2 2 c2 tabL 4096 mb kb Mb) (h1 : ka ≤ j) (h2 : kb ≤ j) (hz : ∀ z, Mb z = if z = z0 then Ma z else none) : ApR w0 w' xa xb ma mb A1 A2 c1 c2 j z0 := by
  obtain ⟨es, ck, hm⟩ : ∃ es ck, w.heap[mb]? = some (.map es ck) := by obtain ⟨D, hd1, _⟩ := hB0.e; exact own_map hd1
  exact ⟨hl.trans (ho.below hl.size (by rintro x hx; rw [List.mem_singleton] at hx; rw [hx]; exact gb)), ne, ga, gb, ⟨ka, kb, Ma, Mb, hA.other hm ne ho, hB, h1, h2, hz⟩⟩
theorem neqRep (a b c d e : Int) (g : Bool) (w : World) : (binOp .neq 42 (.agg #[.int .i64 a, .bool g, .int .i64 b, .int .i64 c, .int .i64 d, .int .i64 e]) (.agg #[.int .i64 a, .bool g, .int .i64 b, .int .i64 c, .int .i64 d, .int .i64 e])).run Try.prog w = .ok (.bool false) w := by simp [go_sem, Result.andThen]
/-- What the drawn region keeps. -/
structure ApZ (w6 W : World) (q : Nat) (ls ys : List Value) : Prop where
  b : Below w6.heap.size w6 W
  k : BlkL W q ls
  y : BlkL W w6.heap.size ys
theorem rel_far {Ma Mb : BkMap} {z0 : List Nat} (hz : ∀ z, Mb z = if z = z0 then Ma z else none) (l : List PolM) (o p : Nat) (zs : List Nat) (N : Int) (now : Nat) (s : Int) (h5 : 5 ≤ o) (h6 : o ≤ 6) :
    ∀ z, actM l Mb o p zs N now s z = if z = z0 then actM l Ma o p zs N now s z else none := by
  intro z
  have h := hz z
  unfold actM
  by_cases e5 : o = 5
  · rw [if_pos e5, if_pos e5]
    unfold evictB
    rw [h]
    by_cases hh : z = z0
    · rw [if_pos hh, if_pos hh]
    · rw [if_neg hh, if_neg hh]
  · rw [if_neg e5, if_neg e5]
    by_cases e6 : o = 6
    · rw [if_pos e6, if_pos e6]; exact h
    · exact absurd h6 (by omega)
theorem rel_same {Ma Mb : BkMap} {z0 : List Nat} (hz : ∀ z, Mb z = if z = z0 then Ma z else none) (l : List PolM) (o p : Nat) (zs : List Nat) (N : Int) (now : Nat) (s : Int) (h5 : o < 5) (he : p :: zs = z0) :
    (∀ z, actM l Mb o p zs N now s z = if z = z0 then actM l Ma o p zs N now s z else none) ∧ getB Mb (p :: zs) = getB Ma (p :: zs) := by
  have hg : getB Mb (p :: zs) = getB Ma (p :: zs) := by unfold getB; rw [hz, if_pos he]
  refine ⟨fun z => ?_, hg⟩
  have h := hz z
  rw [actM_lt _ _ _ _ _ _ _ _ h5, actM_lt _ _ _ _ _ _ _ _ h5, hg]
  unfold afterB putB
  subst he
  split
  · by_cases hh : z = p :: zs
    · simp [hh]
    · simp [hh, h]
  · exact h
theorem rel_other {Ma Mb : BkMap} {z0 : List Nat} (hz : ∀ z, Mb z = if z = z0 then Ma z else none) (l : List PolM) (o p : Nat) (zs : List Nat) (N : Int) (now : Nat) (s : Int) (h5 : o < 5) (he : p :: zs ≠ z0) :
    ∀ z, Mb z = if z = z0 then actM l Ma o p zs N now s z else none := by
  intro z
  have h := hz z
  rw [actM_lt _ _ _ _ _ _ _ _ h5]
  by_cases hh : z = z0
  · have hne : z ≠ p :: zs := fun e => he (e.symm.trans hh)
    rw [if_pos hh] at h ⊢
    rw [h]
    unfold afterB putB
    split
    · exact (if_neg hne).symm
    · rfl
  · rw [if_neg hh] at h ⊢
    exact h

set_option maxHeartbeats 6400000 in
theorem bookApart_walk (A0 : Option Addr) (n0 c0 : Nat) (sc : List AskV) (KA : Option Addr) (kn kc : Nat) (zs : List Nat) (w : World) (hsc : AskA w w.heap.size A0 n0 c0 sc) (hcap : c0 ≤ 2199023255488) (hkey : Arg w w.heap.size KA kn kc zs) (hkc : kc ≤ 140737488351232) :
    Calls Try.prog 6 #[.slice A0 n0 c0, .slice KA kn kc] w (ValEnd w (.bool true)) := by
  have HAw := Lib.hid (awake16_any w)
  have HT := Lib.hid table_any
  have HN := Lib.hid tab_new
  have HSC := Lib.hid hsc
  have HKY := Lib.hid hkey
  have hnc : kn ≤ kc := hkey.le
  have hle0 : n0 ≤ c0 := hsc.arg.le
  have hm : (if (kn : Int) < 2 then (kn : Int) else 2) = ((min kn 2 : Nat) : Int) := by split <;> omega
  have hm2 : (if (2 : Int) < (kn : Int) then (2 : Int) else (kn : Int)) = ((min kn 2 : Nat) : Int) := by split <;> omega
  have m0 : (0 : Int) ≤ ((min kn 2 : Nat) : Int) := by omega
  have mc : ((min kn 2 : Nat) : Int) ≤ (kc : Int) := by omega
  have mc' : min kn 2 ≤ kc := by omega
  obtain ⟨km, hkm⟩ : ∃ km, km = min kn 2 := ⟨_, rfl⟩
  have HKM := Lib.hid hkm
  rw [← hkm] at hm hm2 m0 mc mc'
  clear hsc hkey hnc hkm
  go_enter Try.func6, Try.ntmps6
  go_wp2_with fail
  refine HAw.out.mono ?_
  rintro e w1 ⟨rfl, hb1⟩
  have HB1 := Lib.hid hb1
  clear hb1 HAw
  go_wp2_with fail
  refine (HT.out w1).mono ?_
  rintro e w2 ⟨rfl, rfl⟩
  go_wp2_with fail
  refine (HN.out w1).mono ?_
  rintro e w2 ⟨xa, A1, c1, ma, rfl, hxa, hma, hb2⟩
  have HB2 := Lib.hid (HB1.out.trans (hb2.mono HB1.out.size))
  have HXa := Lib.hid hxa
  have HMa := Lib.hid (Nat.le_trans HB1.out.size hma)
  clear hb2 hxa hma
  go_wp2_with fail
  refine (HT.out w2).mono ?_
  rintro e w3 ⟨rfl, rfl⟩
  go_wp2_with fail
  refine (HN.out w2).mono ?_
  rintro e w3 ⟨xb, A2, c2, mb, rfl, hxb, hmb, hb3⟩
  have hAp : ApR w w3 xa xb ma mb A1 A2 c1 c2 0 (0 :: zs.take 2) :=
    ⟨HB2.out.trans (hb3.mono HB2.out.size), by have := HXa.out.lt; omega, HMa.out, Nat.le_trans HB2.out.size hmb, ⟨0, 0, _, _, HXa.out.below hb3, hxb, Nat.le_refl _, Nat.le_refl _, fun z => by split <;> rfl⟩⟩
  have HAp := Lib.hid hAp
  clear hxb hmb hb3 hAp HXa HMa HB1 HB2 HT HN
  go_wp2_with fail
  go_loopw [37] (fun iv wr => ∃ j : Nat, j ≤ n0 ∧ j ≤ 150 ∧ iv = .int .i64 (j : Int) ∧ ApR w wr xa xb ma mb A1 A2 c1 c2 j (0 :: zs.take 2)) (fun iv _ => n0 - (intOf iv).toNat)
  case atStart => exact ⟨0, Nat.zero_le _, Nat.zero_le _, rfl, HAp.out⟩
  case round =>
    obtain ⟨j, hj, hj150, rfl, hap⟩ := hrel
    have HP := Lib.hid hap
    clear hap HAp
    rcases Nat.lt_or_ge j n0 with h1 | h1
    · have hln := HSC.out.len
      have hkk := HSC.out.key _ (ask_mem (l := sc) (i := j) (by omega))
      obtain ⟨b, off, rfl, hbB, hcc⟩ := ((HSC.out.below HP.out.low).arg).at_ (by omega)
      have hf := fun t ht => FA_at sc j t (by omega) ht
      have e0 := (hcc (j * 6) (by omega)).trans (hf 0 (by omega))
      have e1 := (hcc (j * 6 + 1) (by omega)).trans (hf 1 (by omega))
      have e2 := (hcc (j * 6 + 2) (by omega)).trans (hf 2 (by omega))
      have e3 := (hcc (j * 6 + 3) (by omega)).trans (hf 3 (by omega))
      have e4 := (hcc (j * 6 + 4) (by omega)).trans (hf 4 (by omega))
      have e5 := (hcc (j * 6 + 5) (by omega)).trans (hf 5 (by omega))
      clear hcc hf hln hbB
      generalize sc.getD j noAsk = a at hkk e0 e1 e2 e3 e4 e5
      obtain ⟨aop, aq, aA, an, ac, azs, aN, anow, asr⟩ := a
      simp only [AskV.cells, List.getElem?_cons_zero, List.getElem?_cons_succ] at e0 e1 e2 e3 e4 e5 hkk
      have e1 : wr.cell? ⟨b, off + j * 6 + 1, none⟩ = some (.int .i64 aq) := e1
      have e2 : wr.cell? ⟨b, off + j * 6 + 2, none⟩ = some (.slice aA an ac) := e2
      have e3 : wr.cell? ⟨b, off + j * 6 + 3, none⟩ = some (.int .i64 aN) := e3
      have e4 : wr.cell? ⟨b, off + j * 6 + 4, none⟩ = some (.int .i64 anow) := e4
      have e5 : wr.cell? ⟨b, off + j * 6 + 5, none⟩ = some (.int .i64 asr) := e5
      rcases Nat.lt_or_ge j 150 with h2 | h2
      · have hF := fit16_any (wr.alloc (.cells #[.int .u8 (aop : Nat), .int .i64 aq, .slice aA an ac, .int .i64 aN, .int .i64 anow, .int .i64 asr] 39)) aop aq aN anow asr aA an ac hkk.2.o1 hkk.2.N1 hkk.2.w1 hkk.2.s1 hkk.1.le
        obtain ⟨nw, hnw⟩ : ∃ nw : Nat, clampV anow = (nw : Int) := ⟨(clampV anow).toNat, by unfold clampV; split <;> (try split) <;> omega⟩
        have hnw2 : nw ≤ 4611686018427387903 := by have : isTick (clampV anow) = true := tick_clamp anow; rw [hnw] at this; have := isTick_iff.1 this; omega
        rw [hnw] at hF
        have hoo := fitOp6_le aop
        obtain ⟨o, hoe⟩ : ∃ o, o = fitOp6 aop := ⟨_, rfl⟩
        rw [← hoe] at hF hoo
        obtain ⟨p, hpe⟩ : ∃ p, p = fitQ o aN := ⟨_, rfl⟩
        rw [← hpe] at hF
        obtain ⟨N', hNe⟩ : ∃ N', N' = fitN o aN := ⟨_, rfl⟩
        rw [← hNe] at hF
        obtain ⟨s', hse⟩ : ∃ s', s' = fitS asr := ⟨_, rfl⟩
        rw [← hse] at hF
        obtain ⟨m, hme⟩ : ∃ m, m = min an 2 := ⟨_, rfl⟩
        rw [← hme] at hF
        have HF := Lib.hid hF
        have HV := Lib.hid (And.intro hoe (And.intro hpe (And.intro hNe (And.intro hse (And.intro hme (And.intro hnw2 hoo))))))
        have HKK := Lib.hid hkk
        clear hF hoe hpe hNe hse hme hnw hnw2 hoo hkk
        go_wp2_with fail
        refine HF.out.mono ?_
        rintro e w5 ⟨rfl, hb5⟩
        have k0 := (BlkL.new wr [.int .u8 (aop : Nat), .int .i64 aq, .slice aA an ac, .int .i64 aN, .int .i64 anow, .int .i64 asr] 39).below hb5
        have HB5 := Lib.hid ((below_a1 wr (.cells #[.int .u8 (aop : Nat), .int .i64 aq, .slice aA an ac, .int .i64 aN, .int .i64 anow, .int .i64 asr] 39)).trans (hb5.mono (by simp)))
        clear hb5 e0 e1 e2 e3 e4 e5 HF
        have c0 := k0.cell 0 _ rfl
        have c1 := k0.cell 1 _ rfl
        have c2 := k0.cell 2 _ rfl
        have c3 := k0.cell 3 _ rfl
        have c4 := k0.cell 4 _ rfl
        have c5 := k0.cell 5 _ rfl
        have f0 := k0.froz 0 (by simp)
        have f1 := k0.froz 1 (by simp)
        have f2 := k0.froz 2 (by simp)
        have f3 := k0.froz 3 (by simp)
        have f4 := k0.froz 4 (by simp)
        have f5 := k0.froz 5 (by simp)
        have K0 := Lib.hid k0
        clear k0
        go_wp2_with fail
        have kbx := K0.out.put6 (.int .u8 (o : Nat)) (.int .i64 (p : Nat)) (.slice aA m ac) (.int .i64 N') (.int .i64 (nw : Nat)) (.int .i64 s')
        have hbx := below_put6 HB5.out (b := wr.heap.size) (Nat.le_refl _) (.int .u8 (o : Nat)) (.int .i64 (p : Nat)) (.slice aA m ac) (.int .i64 N') (.int .i64 (nw : Nat)) (.int .i64 s')
        clear c0 c1 c2 c3 c4 c5 f0 f1 f2 f3 f4 f5 K0 HB5
        generalize World.setCell _ _ _ = WB at kbx hbx ⊢
        obtain ⟨hoe, hpe, hNe, hse, hme, hnw2, hoo⟩ := HV.out
        obtain ⟨ka, kb, Ma, Mb, hA, hB, hka, hkb, hz⟩ := HP.out.st
        have hkA := ((HKK.out.1.below HP.out.low).below (hbx.mono HP.out.low.size)).more (Nat.le_trans HP.out.low.size hbx.size)
        have HDo := Lib.hid (book_fit (hA.below hbx) o p m ac nw aA (azs.take m) N' s' hoo (by subst hpe; exact fitQ_lt o aN) (by subst hpe; exact fit_kind o aN hoo tabL rfl rfl) (hkA.to2 m (by omega)) (by omega) (by subst hNe; exact fitN_tick o aN) hnw2 (by subst hse; exact fitS_ge asr) (by omega))
        clear hkA hoe hpe hNe hse hme hnw2 hoo
        go_wp2_with fail
        refine HDo.out.mono ?_
        rintro e w6 ⟨ra, k1, rfl, hA6, hk1, hra, ho6⟩
        obtain ⟨esm, ckm, hmm⟩ : ∃ es ck, WB.heap[ma]? = some (.map es ck) := by obtain ⟨D, hd1, _⟩ := (hA.below hbx).e; exact own_map hd1
        have hB6 := (hB.below hbx).other hmm (Ne.symm HP.out.ne) ho6
        have HA6 := Lib.hid hA6
        have HB6 := Lib.hid hB6
        have kb6 := kbx.off ho6 (by simpa using cell_ne_map (p := ⟨wr.heap.size, 0, none⟩) (kbx.cell 0 _ rfl) hmm)
        have hb6 : Off [ma] wr w6 := (Off.of_below hbx).trans ho6
        clear hA6 hB6 hA hB hmm HDo kbx hbx ho6
        have kb7 := kb6.below (below_a1 w6 (.cells #[.int .i64 ra.e, .bool ra.g, .int .i64 ra.l, .int .i64 ra.wt, .int .i64 ra.s, .int .i64 ra.now] 42))
        have c0 := kb7.cell 0 _ rfl
        have c1 := kb7.cell 1 _ rfl
        have c2 := kb7.cell 2 _ rfl
        have c3 := kb7.cell 3 _ rfl
        have c4 := kb7.cell 4 _ rfl
        have c5 := kb7.cell 5 _ rfl
        have hlow6 : Below w.heap.size w w6 := HP.out.low.trans (hb6.below HP.out.low.size (by rintro x hx; rw [List.mem_singleton] at hx; rw [hx]; exact HP.out.ga))
        have HZ := Lib.hid hz
        have HLow := Lib.hid hlow6
        have HK7 := Lib.hid kb7
        have HDb := Lib.hid (fun W (hW : Below w6.heap.size w6 W) => book_fit (HB6.out.below hW) o p m ac nw aA (azs.take m) N' s' HV.out.2.2.2.2.2.2 (by rw [HV.out.2.1]; exact fitQ_lt o aN) (by rw [HV.out.2.1]; exact fit_kind o aN HV.out.2.2.2.2.2.2 tabL rfl rfl) ((((HKK.out.1.below HLow.out).below (hW.mono HLow.out.size)).more (Nat.le_trans HLow.out.size hW.size)).to2 m (by have := HV.out.2.2.2.2.1; omega)) (by have := HV.out.2.2.2.2.1; omega) (by rw [HV.out.2.2.1]; exact fitN_tick o aN) HV.out.2.2.2.2.2.1 (by rw [HV.out.2.2.2.1]; exact fitS_ge asr) (by omega))
        clear kb6 hb6 kb7 hz hlow6
        rcases Nat.lt_or_ge o 5 with h5 | h5
        · have d5 : ((o : Nat) : Int) < 5 := by omega
          rcases Nat.eq_zero_or_pos p with hp0 | hp0
          · subst hp0
            obtain ⟨r, hr⟩ : ∃ r, decide (azs.take m = zs.take 2) = r := ⟨_, rfl⟩
            have hR0 : ApZ w6 (w6.alloc (.cells #[.int .i64 ra.e, .bool ra.g, .int .i64 ra.l, .int .i64 ra.wt, .int .i64 ra.s, .int .i64 ra.now] 42)) wr.heap.size [.int .u8 (o : Nat), .int .i64 0, .slice aA m ac, .int .i64 N', .int .i64 (nw : Nat), .int .i64 s'] [.int .i64 ra.e, .bool ra.g, .int .i64 ra.l, .int .i64 ra.wt, .int .i64 ra.s, .int .i64 ra.now] := ⟨below_a1 w6 _, HK7.out, BlkL.new w6 _ _⟩
            have hzk : zs.take km = zs.take 2 := by rw [HKM.out]; have := HKY.out.len; rcases Nat.le_total kn 2 with h | h <;> simp [Nat.min_eq_left, Nat.min_eq_right, h, List.take_of_length_le, this]
            have HS := Lib.hid (fun W (hW : ApZ w6 W wr.heap.size [.int .u8 (o : Nat), .int .i64 0, .slice aA m ac, .int .i64 N', .int .i64 (nw : Nat), .int .i64 s'] [.int .i64 ra.e, .bool ra.g, .int .i64 ra.l, .int .i64 ra.wt, .int .i64 ra.s, .int .i64 ra.now]) =>
              show Calls Try.prog 22 #[.slice aA m ac, .slice KA km kc] W (fun e w' => e = .returned (.bool r) ∧ ApZ w6 w' wr.heap.size [.int .u8 (o : Nat), .int .i64 0, .slice aA m ac, .int .i64 N', .int .i64 (nw : Nat), .int .i64 s'] [.int .i64 ra.e, .bool ra.g, .int .i64 ra.l, .int .i64 ra.wt, .int .i64 ra.s, .int .i64 ra.now]) from by
                refine (same_any W w.heap.size w.heap.size aA KA m ac km kc (azs.take m) (zs.take km) r (by rw [hzk]; exact hr) (((HKK.out.1.below HLow.out).below (hW.b.mono HLow.out.size)).to2 m (by have := HV.out.2.2.2.2.1; omega)) (((HKY.out.below HLow.out).below (hW.b.mono HLow.out.size)).to2 km (by have := HKM.out; omega))).mono ?_
                rintro e w' ⟨rfl, t, rfl⟩
                exact ⟨rfl, below_drewN hW.b t, hW.k.drewN t, hW.y.drewN t⟩)
            cases r with
            | false =>
              have hne : (0 :: azs.take m : List Nat) ≠ 0 :: zs.take 2 := fun e => by have := (List.cons.inj e).2; exact absurd this (of_decide_eq_false hr)
              go_wp2_with fail
              generalize w6.alloc (.cells #[.int .i64 ra.e, .bool ra.g, .int .i64 ra.l, .int .i64 ra.wt, .int .i64 ra.s, .int .i64 ra.now] 42) = w7 at hR0 c0 c1 c2 c3 c4 c5 ⊢
              have HR0 := Lib.hid hR0
              have HQ := Lib.hid (fun t => show Calls Try.prog 22 #[.slice aA m ac, .slice KA km kc] (w7.drewN t) (fun e w' => e = .returned (.bool false) ∧ ∃ q, w' = (w7.drewN t).drewN q) from
                same_any (w7.drewN t) w.heap.size w.heap.size aA KA m ac km kc (azs.take m) (zs.take km) false (by rw [hzk]; exact hr) (((HKK.out.1.below HLow.out).below ((below_drewN hR0.b t).mono HLow.out.size)).to2 m (by have := HV.out.2.2.2.2.1; omega)) (((HKY.out.below HLow.out).below ((below_drewN hR0.b t).mono HLow.out.size)).to2 km (by have := HKM.out; omega)))
              have b0 := hR0.y.cell 0 _ rfl
              have b1 := hR0.y.cell 1 _ rfl
              have b2 := hR0.y.cell 2 _ rfl
              have b3 := hR0.y.cell 3 _ rfl
              have b4 := hR0.y.cell 4 _ rfl
              have b5 := hR0.y.cell 5 _ rfl
              clear hR0 hzk hr HS HDb
              go_quiet ((go_at_call 22; with_reducible exact Calls.quiet_of (HQ.out _)))
              go_wp2
              go_roundw
              case rel => exact ⟨j + 1, by omega, by omega, by push_cast; rfl, ApR.mk2 HLow.out (below_drewN HR0.out.b _) HP.out.ne HP.out.ga HP.out.gb HA6.out HB6.out (by omega) (by omega) (rel_other HZ.out tabL o 0 _ N' nw s' h5 hne)⟩
              case measure => simp [intOf]; omega
            | true =>
              have heq : (0 :: azs.take m : List Nat) = 0 :: zs.take 2 := by rw [of_decide_eq_true hr]
              have HD := Lib.hid (fun W (hW : ApZ w6 W wr.heap.size [.int .u8 (o : Nat), .int .i64 0, .slice aA m ac, .int .i64 N', .int .i64 (nw : Nat), .int .i64 s'] [.int .i64 ra.e, .bool ra.g, .int .i64 ra.l, .int .i64 ra.wt, .int .i64 ra.s, .int .i64 ra.now]) =>
                show Calls Try.prog 18 #[.pointer (some ⟨xb, 0, none⟩), .agg #[.int .u8 (o : Nat), .int .i64 0, .slice aA m ac, .int .i64 N'], .int .i64 (nw : Nat), .int .i64 s'] W (fun e w' => e = .returned (.agg #[.int .i64 ra.e, .bool ra.g, .int .i64 ra.l, .int .i64 ra.wt, .int .i64 ra.s, .int .i64 ra.now]) ∧ BlkL w' wr.heap.size [.int .u8 (o : Nat), .int .i64 0, .slice aA m ac, .int .i64 N', .int .i64 (nw : Nat), .int .i64 s'] ∧ BlkL w' w6.heap.size [.int .i64 ra.e, .bool ra.g, .int .i64 ra.l, .int .i64 ra.wt, .int .i64 ra.s, .int .i64 ra.now] ∧ ApR w w' xa xb ma mb A1 A2 _ _ (j + 1) (0 :: zs.take 2)) from by
                  refine (HDb.out W hW.b).mono ?_
                  rintro e w' ⟨r2, k2, rfl, hB8, hk2, hr2, ho8⟩
                  have hrs := rel_same HZ.out tabL o 0 (azs.take m) N' nw s' h5 heq
                  have e2 : r2 = ra := (hr2 (by omega)).trans (by rw [hrs.2]; exact (hra (by omega)).symm)
                  rw [e2]
                  obtain ⟨esb, ckb, hmb⟩ : ∃ es ck, W.heap[mb]? = some (.map es ck) := by obtain ⟨D, hd1, _⟩ := (HB6.out.below hW.b).e; exact own_map hd1
                  exact ⟨rfl, hW.k.off ho8 (by simpa using cell_ne_map (p := ⟨wr.heap.size, 0, none⟩) (hW.k.cell 0 _ rfl) hmb), hW.y.off ho8 (by have := HB6.out.lt; rw [List.mem_singleton]; omega), ApR.mk3 (HLow.out.trans (hW.b.mono HLow.out.size)) HP.out.ne HP.out.ga HP.out.gb (HA6.out.below hW.b) (HB6.out.below hW.b) ho8 hB8 (by omega) (by omega) hrs.1⟩)
              have hneq := fun W => neqRep ra.e ra.l ra.wt ra.s ra.now ra.g W
              go_wp2_with fail
              generalize w6.alloc (.cells #[.int .i64 ra.e, .bool ra.g, .int .i64 ra.l, .int .i64 ra.wt, .int .i64 ra.s, .int .i64 ra.now] 42) = w7 at hR0 c0 c1 c2 c3 c4 c5 ⊢
              have b0 := hR0.y.cell 0 _ rfl
              have b1 := hR0.y.cell 1 _ rfl
              have b2 := hR0.y.cell 2 _ rfl
              have b3 := hR0.y.cell 3 _ rfl
              have b4 := hR0.y.cell 4 _ rfl
              have b5 := hR0.y.cell 5 _ rfl
              have hZ7 : ApZ w6 w7.drew wr.heap.size _ _ := ⟨hR0.b.drew, hR0.k.drew, hR0.y.drew⟩
              clear hR0 hzk hr HDb
              go_region_held3 (fun W => W.cell? ⟨wr.heap.size, 0, none⟩ = some (.int .u8 (o : Nat)) ∧ W.cell? ⟨wr.heap.size, 1, none⟩ = some (.int .i64 0) ∧ W.cell? ⟨wr.heap.size, 2, none⟩ = some (.slice aA m ac) ∧ W.cell? ⟨wr.heap.size, 3, none⟩ = some (.int .i64 N') ∧ W.cell? ⟨wr.heap.size, 4, none⟩ = some (.int .i64 (nw : Nat)) ∧ W.cell? ⟨wr.heap.size, 5, none⟩ = some (.int .i64 s') ∧ W.cell? ⟨w6.heap.size, 0, none⟩ = some (.int .i64 ra.e) ∧ W.cell? ⟨w6.heap.size, 1, none⟩ = some (.bool ra.g) ∧ W.cell? ⟨w6.heap.size, 2, none⟩ = some (.int .i64 ra.l) ∧ W.cell? ⟨w6.heap.size, 3, none⟩ = some (.int .i64 ra.wt) ∧ W.cell? ⟨w6.heap.size, 4, none⟩ = some (.int .i64 ra.s) ∧ W.cell? ⟨w6.heap.size, 5, none⟩ = some (.int .i64 ra.now)) (first | (exact ⟨(by with_reducible assumption), (by with_reducible assumption), (by with_reducible assumption), (by with_reducible assumption), (by with_reducible assumption), (by with_reducible assumption), (by with_reducible assumption), (by with_reducible assumption), (by with_reducible assumption), (by with_reducible assumption), (by with_reducible assumption), (by with_reducible assumption)⟩) | go_keep) (first | (with_reducible refine (HS.out _ (by assumption)).mono ?_; rintro e w8 ⟨rfl, hr8⟩; clear c0 c1 c2 c3 c4 c5 b0 b1 b2 b3 b4 b5; have c0 := hr8.k.cell 0 _ rfl; have c1 := hr8.k.cell 1 _ rfl; have c2 := hr8.k.cell 2 _ rfl; have c3 := hr8.k.cell 3 _ rfl; have c4 := hr8.k.cell 4 _ rfl; have c5 := hr8.k.cell 5 _ rfl; have b0 := hr8.y.cell 0 _ rfl; have b1 := hr8.y.cell 1 _ rfl; have b2 := hr8.y.cell 2 _ rfl; have b3 := hr8.y.cell 3 _ rfl; have b4 := hr8.y.cell 4 _ rfl; have b5 := hr8.y.cell 5 _ rfl) | (with_reducible refine (HD.out _ (by assumption)).mono ?_; rintro e w9 ⟨rfl, hk9, hy9, hap9⟩; have HAp9 := Lib.hid hap9; clear hap9; clear c0 c1 c2 c3 c4 c5 b0 b1 b2 b3 b4 b5; have c0 := hk9.cell 0 _ rfl; have c1 := hk9.cell 1 _ rfl; have c2 := hk9.cell 2 _ rfl; have c3 := hk9.cell 3 _ rfl; have c4 := hk9.cell 4 _ rfl; have c5 := hk9.cell 5 _ rfl; have b0 := hy9.cell 0 _ rfl; have b1 := hy9.cell 1 _ rfl; have b2 := hy9.cell 2 _ rfl; have b3 := hy9.cell 3 _ rfl; have b4 := hy9.cell 4 _ rfl; have b5 := hy9.cell 5 _ rfl))
              go_wp2
              go_roundw
              case rel => exact ⟨j + 1, by omega, by omega, by push_cast; rfl, HAp9.out⟩
              case measure => simp [intOf]; omega
          · have dp : ((p : Nat) : Int) ≠ 0 := by omega
            have dq : (((p : Nat) : Int) == 0) = false := by simpa using dp
            go_wp2_with fail
            go_region
            go_wp2
            go_roundw
            case rel => exact ⟨j + 1, by omega, by omega, by push_cast; rfl, ApR.mk2 HLow.out ((below_a1 w6 _).drew) HP.out.ne HP.out.ga HP.out.gb HA6.out HB6.out (by omega) (by omega) (rel_other HZ.out tabL o p _ N' nw s' h5 (fun e => by have := (List.cons.inj e).1; omega))⟩
            case measure => simp [intOf]; omega
        · have d5 : ¬ ((o : Nat) : Int) < 5 := by omega
          have d6 : (5 : Int) ≤ ((o : Nat) : Int) := by omega
          go_wp2_with fail
          refine (HDb.out _ (below_a1 w6 _)).mono ?_
          rintro e w8 ⟨r2, k2, rfl, hB8, hk2, _, ho8⟩
          have HB8 := Lib.hid hB8
          have HO8 := Lib.hid ho8
          clear hB8 ho8
          go_wp2
          go_roundw
          case rel => exact ⟨j + 1, by omega, by omega, by push_cast; rfl, ApR.mk3 (HLow.out.trans ((below_a1 w6 _).mono HLow.out.size)) HP.out.ne HP.out.ga HP.out.gb (HA6.out.below (below_a1 w6 _)) (HB6.out.below (below_a1 w6 _)) HO8.out HB8.out (by omega) (by omega) (rel_far HZ.out tabL o p _ N' nw s' h5 HV.out.2.2.2.2.2.2.2)⟩
          case measure => simp [intOf]; omega
      · obtain ⟨ka, kb, Ma, Mb, hA, hB, _, _, hz⟩ := HP.out.st
        have hk1 : kb ≤ 1 := hB.one _ (fun z c h => by rw [hz] at h; split at h; assumption; cases h)
        obtain ⟨D, hd1, hd2⟩ := hB.e
        have hB' := hB.below (below_a1 wr (.cells #[.int .u8 (aop : Nat), .int .i64 aq, .slice aA an ac, .int .i64 aN, .int .i64 anow, .int .i64 asr] 39))
        obtain ⟨D', hd1', hd2'⟩ := hB'.e
        have HLn := Lib.hid (blen_any (wr.alloc (.cells #[.int .u8 (aop : Nat), .int .i64 aq, .slice aA an ac, .int .i64 aN, .int .i64 anow, .int .i64 asr] 39)) xb mb kb (hB'.r.blk.cell 2 _ rfl) (fun ty => by have := hd1'.len Try.underlying69 ty; rw [hd2'] at this; exact this))
        have hlow := HP.out.low.trans ((below_a1 wr (.cells #[.int .u8 (aop : Nat), .int .i64 aq, .slice aA an ac, .int .i64 aN, .int .i64 anow, .int .i64 asr] 39)).mono HP.out.low.size)
        have hdd : decide ((kb : Int) ≤ 1) = true := decide_eq_true (by omega)
        have hdn : kb ≤ 1 := hk1
        clear hA hB hz hd1 hd2 hk1 hB' hd1' hd2'
        go_wp2_with fail
        refine HLn.out.mono ?_
        rintro e w5 ⟨rfl, rfl⟩
        go_wp2
        go_ret
        exact ⟨ret_bool (by simp), hlow⟩
    · obtain rfl : j = n0 := by omega
      obtain ⟨ka, kb, Ma, Mb, hA, hB, _, _, hz⟩ := HP.out.st
      have hk1 : kb ≤ 1 := hB.one _ (fun z c h => by rw [hz] at h; split at h; assumption; cases h)
      obtain ⟨D, hd1, hd2⟩ := hB.e
      have HLn := Lib.hid (blen_any wr xb mb kb (hB.r.blk.cell 2 _ rfl) (fun ty => by have := hd1.len Try.underlying69 ty; rw [hd2] at this; exact this))
      have hdd : decide ((kb : Int) ≤ 1) = true := decide_eq_true (by omega)
      have hdn : kb ≤ 1 := hk1
      clear hA hB hz hd1 hd2 hk1
      go_wp2_with fail
      refine HLn.out.mono ?_
      rintro e w5 ⟨rfl, rfl⟩
      go_wp2
      go_ret
      exact ⟨ret_bool (by simp), HP.out.low⟩
end Go.Proofs.Ytnkecjjfbllgdaa
