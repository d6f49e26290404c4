/- The law ShardVersions: its walk. -/
import Derived.Test.YtpjgpiiibgogeaaVsM
import Derived.Outline
namespace Go.Proofs.Ytpjgpiiibgogeaa
open Go.RowKit
set_option maxRecDepth 100000
set_option linter.unusedVariables false

def VsInv (w : World) (s b bw O n : Nat) (iv : Value) (wr : World) : Prop :=
  ∃ i k v l nx opf, i ≤ n ∧ i ≤ 300 ∧ iv = .int .i64 ((i : Nat) : Int) ∧ k ≤ i + 1 ∧ VsS w wr s b bw O k v l nx opf
theorem VsS.start {w wr w' : World} {s b bw O k v i op : Nat} {l : List Ent} {nx : Nat → Nx} {opf : Nat → Nat} {ks : List Nat} {x : Int} (h : VsS w wr s b bw O k v l nx opf) (hi : i < 4) (ho : op ≤ 4) (hc : ShC w w' s b bw [O] k v l (updF nx i (.read op ks x))) (hf : Off [s, b, bw] wr w') :
    VsS w (w'.setCell ⟨O, i, none⟩ (.int .u8 (op : Int))) s b bw O k v l (updF nx i (.read op ks x)) (updF opf i op) := by
  have hO := h.ob.off hf h.on
  have hb := (hO.set i (.int .u8 (op : Int)) hi)
  have hof : Off [O] w' (w'.setCell ⟨O, i, none⟩ (.int .u8 (op : Int))) := (Off.refl _ _).setCell (p := ⟨O, i, none⟩) (by simp) _
  have e : updF (fun j => Value.int .u8 (opf j : Int)) i (.int .u8 (op : Int)) = fun j => .int .u8 ((updF opf i op j : Nat) : Int) := by
    funext j; unfold updF; split <;> rfl
  rw [e] at hb
  refine ⟨hc.putX (by simp) h.on h.oge hof, hb, h.on, h.oge, fun j hj => ?_, fun j => ?_⟩
  · by_cases hji : j = i
    · subst hji; rw [updF_same, updF_same]; exact ⟨trivial, fun _ => rfl⟩
    · rw [updF_other _ _ _ _ hji, updF_other _ _ _ _ hji]; exact h.good j hj
  · by_cases hji : j = i
    · subst hji; rw [updF_same]; omega
    · rw [updF_other _ _ _ _ hji]; exact h.o255 j
theorem VsS.step {w wr w' : World} {s b bw O k k' v v' i : Nat} {l l' : List Ent} {nx : Nat → Nx} {y : Nx} {opf : Nat → Nat} (h : VsS w wr s b bw O k v l nx opf) (hi : i < 4) (hg : goodN y) (hy : isNx y = true → opN y = opN (nx i)) (hp : isNx (nx i) = true) (hc : ShC w w' s b bw [O] k' v' l' (updF nx i y)) (hf : Off [s, b, bw] wr w') :
    VsS w w' s b bw O k' v' l' (updF nx i y) opf := by
  refine ⟨hc, h.ob.off hf h.on, h.on, h.oge, fun j hj => ?_, h.o255⟩
  by_cases hji : j = i
  · subst hji; rw [updF_same]; exact ⟨hg, fun hh => (hy hh).trans ((h.good j hj).2 hp)⟩
  · rw [updF_other _ _ _ _ hji]; exact h.good j hj

set_option maxHeartbeats 12800000 in
theorem shardVersions_walk (A : Option Addr) (n d : Nat) (l0 : List PkV) (w : World) (h : ScrA w w.heap.size A n d l0) (hd : d ≤ 8796093021952) :
    Calls Try.prog 12 #[.slice A n d] w (ValEnd w (.bool true)) := by
  have hle := h.arg.le
  have HAG := Lib.hid h
  clear h
  go_enter Try.func12, Try.ntmps12
  go_wp2_with fail
  with_reducible refine (awake14_any _).mono ?_
  rintro e w1 ⟨rfl, hB⟩
  have HB1 := Lib.hid hB
  have HN := Lib.hid (newC w1)
  clear hB
  go_wp2_with fail
  with_reducible refine HN.out.mono ?_
  rintro e w2 ⟨s, b, bw, rfl, c2⟩
  have hsz1 := HB1.out.size
  have c2' : ShC w w2 s b bw [] 1 1 [] (fun _ => .none) := ⟨c2.sh, Nat.le_trans hsz1 c2.bs, Nat.le_trans hsz1 c2.bb, Nat.le_trans hsz1 c2.bbw, HB1.out.trans (c2.bel.mono hsz1)⟩
  have c3 := c2'.newX (.cells #[.int .u8 0, .int .u8 0, .int .u8 0, .int .u8 0] 54)
  have kb := BlkL.new w2 [.int .u8 0, .int .u8 0, .int .u8 0, .int .u8 0] 54
  have hnb := c2'.newb
  have s0 : VsS w (w2.alloc (.cells #[.int .u8 0, .int .u8 0, .int .u8 0, .int .u8 0] 54)) s b bw w2.heap.size 1 1 [] (fun _ => .none) (fun _ => 0) := by
    refine ⟨c3, ⟨kb.lt, fun i hi => ?_, fun i hi => kb.froz i hi⟩, hnb, c2'.bel.size, fun j hj => ⟨trivial, by simp [isNx]⟩, fun j => by simp⟩
    rcases (by omega : i = 0 ∨ i = 1 ∨ i = 2 ∨ i = 3) with rfl | rfl | rfl | rfl
    · exact kb.cell 0 _ rfl
    · exact kb.cell 1 _ rfl
    · exact kb.cell 2 _ rfl
    · exact kb.cell 3 _ rfl
  have S0 := Lib.hid s0
  clear s0 c2 c2' c3 kb hnb HN
  go_wp2
  go_loopw [16] (fun iv wr => VsInv w s b bw w2.heap.size n iv wr) (fun iv _ => n - (intOf iv).toNat)
  case atStart => exact ⟨0, 1, 1, [], _, _, Nat.zero_le _, by omega, rfl, by omega, S0.out⟩
  case round =>
    obtain ⟨i, k, v, l, nx, opf, hi, hi3, rfl, hk, st⟩ := hrel
    clear S0
    generalize w2.heap.size = O at st
    rcases Nat.lt_or_ge i n with hin | hin
    · obtain ⟨bb, off, eA, hbb, q0, q1, q2, q3, harg, hok⟩ := (HAG.out.below st.c.bel).at_ hin
      subst eA
      have hbs := st.c.bel.size
      generalize l0.getD i noPk = p at q0 q1 q2 q3 harg hok
      obtain ⟨who, op, pA, pn, pc, pz, px⟩ := p
      simp only at q0 q1 q2 q3 harg
      have j0 : (0 : Int) ≤ (i : Int) := by omega
      have j1 : (i : Int) < (n : Int) := by omega
      have hbb2 : bb < wr.heap.size := by omega
      have hple := harg.le
      have hpc := hok.kc
      have hw0 := hok.w0
      have hw1 := hok.w1
      have ho255 := hok.o1
      have hx0 := hok.x0
      have hx1 := hok.x1
      simp only at hpc hw0 hw1 ho255 hx0 hx1
      have ST := Lib.hid st
      clear st hok
      rcases Nat.lt_or_ge i 300 with h3 | h3
      · have h3' : ¬ (300 : Int) ≤ (i : Int) := by omega
        obtain ⟨q, hq⟩ : ∃ q : Nat, (q : Int) = who % 4 := ⟨(who % 4).toNat, by omega⟩
        have hq4 : q < 4 := by omega
        obtain ⟨km, hkm⟩ : ∃ km : Nat, km = min pn 3 := ⟨_, rfl⟩
        have hkm3 : km ≤ 3 := by omega
        have hkmn : km ≤ pn := by omega
        obtain ⟨fo, hfo⟩ : ∃ fo : Nat, fo = fitOp op := ⟨_, rfl⟩
        have hfo4 : fo ≤ 4 := by rw [hfo]; exact fitOp_le op
        have HF := Lib.hid (fit_any (wr.alloc (.cells #[.int .i64 who, .int .u8 (op : Int), .slice pA pn pc, .int .i64 px] 72)) who op pA pn pc px ho255 hx1 hple (by omega) km hkm q hq fo hfo)
        have hkey := harg.take hkmn
        have HKEY := Lib.hid hkey
        clear hq hkm hfo hkey harg
        have kP0 := Lib.hid (BlkL.new wr [.int .i64 who, .int .u8 (op : Int), .slice pA pn pc, .int .i64 px] 72)
        have hbP : Below wr.heap.size wr (wr.alloc (.cells #[.int .i64 who, .int .u8 (op : Int), .slice pA pn pc, .int .i64 px] 72)) := (Below.refl _ _).alloc (Nat.le_refl _) _
        have HBP := Lib.hid hbP
        clear hbP
        go_wp2_with fail
        with_reducible refine HF.out.mono ?_
        rintro e w3 ⟨rfl, hb3⟩
        have kP := kP0.out.below hb3
        have HB3 := Lib.hid (HBP.out.trans (hb3.mono HBP.out.size))
        have KP := Lib.hid kP
        have c0 := kP.cell 0 _ rfl
        have c1 := kP.cell 1 _ rfl
        have c2 := kP.cell 2 _ rfl
        have c3 := kP.cell 3 _ rfl
        have f0 := kP.froz 0 (by simp)
        have f1 := kP.froz 1 (by simp)
        have f2 := kP.froz 2 (by simp)
        have f3 := kP.froz 3 (by simp)
        have lP := kP.lt
        clear kP hb3 kP0 HF HBP
        go_wp2_with fail
        have kQ := KP.out.put4 (.int .i64 (q : Int)) (.int .u8 (fo : Int)) (.slice pA km pc) (.int .i64 (clampV px))
        have hbQ := below_put4 HB3.out (b := wr.heap.size) (Nat.le_refl _) (.int .i64 (q : Int)) (.int .u8 (fo : Int)) (.slice pA km pc) (.int .i64 (clampV px))
        clear c0 c1 c2 c3 f0 f1 f2 f3 lP KP
        generalize (((w3.setCell ⟨wr.heap.size, 0, none⟩ (.int .i64 (q : Int))).setCell ⟨wr.heap.size, 1, none⟩ (.int .u8 (fo : Int))).setCell ⟨wr.heap.size, 2, none⟩ (.slice pA km pc)).setCell ⟨wr.heap.size, 3, none⟩ (.int .i64 (clampV px)) = w4 at *
        have st4 := ST.out.below hbQ
        have harg4 := (HKEY.out.below (hbQ.mono ST.out.c.bel.size)).more (B' := w4.heap.size) st4.c.bel.size
        have c0 := kQ.cell 0 _ rfl
        have c1 := kQ.cell 1 _ rfl
        have c2 := kQ.cell 2 _ rfl
        have c3 := kQ.cell 3 _ rfl
        have lP := kQ.lt
        have hPn : wr.heap.size ∉ s :: b :: bw :: [O] := ST.out.c.newb
        have hcv := clampV_bd px
        have hkk : k < 9223372036854775807 := by omega
        have hvk := st4.c.wfv.2.1
        have HV := Lib.hid (versionC w w4 s b bw [O] k v l nx st4.c (by omega))
        have ST4 := Lib.hid st4
        have KQ := Lib.hid kQ
        have HA4 := Lib.hid harg4
        have HPN := Lib.hid hPn
        clear st4 kQ harg4 hPn hbQ HB3 ST HKEY
        generalize clampV px = cx at *
        generalize wr.heap.size = P at *
        go_wp2_with fail
        with_reducible refine HV.out.mono ?_
        rintro e w5 ⟨rfl, hw⟩
        subst hw
        have q0 : (0 : Int) ≤ (q : Int) := by omega
        have q4' : (q : Int) < 4 := by omega
        have vv : (v : Int) ≤ 9223372036854775806 := by omega
        have vv0 : (0 : Int) ≤ (v : Int) := by omega
        rcases Nat.eq_zero_or_pos fo with hf0 | hf0
        · subst hf0
          have HPD := Lib.hid (pendC w w4 s b bw [O] k v l nx ST4.out.c q (by omega) _ rfl)
          rcases hp : isNx (nx q) with _ | _
          · rw [hp] at HPD
            go_wp2_with fail
            with_reducible refine HPD.out.mono ?_
            rintro e w5 ⟨rfl, hw⟩
            subst hw
            have HVf := Lib.hid (versionC w w4 s b bw [O] k v l nx (ST4.out).c (by omega))
            have STf := Lib.hid (ST4.out)
            go_wp2_with fail
            with_reducible refine HVf.out.mono ?_
            rintro e wv ⟨rfl, hw⟩
            subst hw
            go_wp2
            go_roundw
            case rel => exact ⟨i + 1, k, v, l, nx, opf, by omega, by omega, by go_num, by omega, STf.out⟩
            case measure => simp [intOf]; omega
          · rw [hp] at HPD
            obtain ⟨hgd, hgo⟩ := ST4.out.good q hq4
            have HG := Lib.hid (step_good v l (nx q) hgd hp)
            have HSP := Lib.hid (stepC w w4 s b bw [O] k v l nx ST4.out.c hkk q (by omega) _ rfl hp _ rfl)
            have HOP := Lib.hid (hgo hp)
            have hmono : v ≤ (stepX v l (nx q)).v ∧ (stepX v l (nx q)).v ≤ v + 1 := by
              rcases HG.out.2.2 with h | h | h | h <;> omega
            generalize ht : stepX v l (nx q) = t at HG HSP hmono
            obtain ⟨⟨td, tE, tN⟩, tv, tl, ty⟩ := t
            simp only at HSP hmono
            clear hgd hgo ht
            go_wp2_with fail
            with_reducible refine HPD.out.mono ?_
            rintro e w5 ⟨rfl, hw⟩
            subst hw
            go_wp2_with fail
            with_reducible refine HSP.out.mono ?_
            rintro e w5 ⟨rfl, c5, hf5⟩
            have hPo : P ∉ [s, b, bw] := fun hh => HPN.out (by simp only [List.mem_cons, List.not_mem_nil, or_false] at hh ⊢; rcases hh with h | h | h <;> simp [h])
            have st5 := ST4.out.step hq4 HG.out.1 HG.out.2.1 hp c5 hf5
            have kp5 := (KQ.out.off hf5 hPo).alloc (.cells #[.bool td, .int .i64 tE, .int .i64 tN] 79)
            have st6 := st5.alloc (.cells #[.bool td, .int .i64 tE, .int .i64 tN] 79)
            have p0 := kp5.cell 0 _ rfl
            have pl := kp5.lt
            have o0 := st6.ob.cell q hq4
            have ol := st6.ob.lt
            have r0 := (BlkL.new w5 [.bool td, .int .i64 tE, .int .i64 tN] 79).cell 0 _ rfl
            have r1 := (BlkL.new w5 [.bool td, .int .i64 tE, .int .i64 tN] 79).cell 1 _ rfl
            have ST6 := Lib.hid st6
            have HVf := Lib.hid (versionC w _ s b bw [O] (k + 1) tv tl (updF nx q ty) st6.c (by omega))
            have HC4 := Lib.hid HG.out.2.2
            have hop := HOP.out
            clear c0 c1 c2 c3 lP c5 hf5 hPo st5 kp5 st6 KQ HPD HSP HV ST4 HG
            rcases HC4.out with ⟨e1, e2⟩ | ⟨e1, e2, e3, e4⟩ | ⟨e1, e2, e3⟩ | ⟨e1, e2, e3, e4⟩
            · skip
              subst e1
              have hve : tv = v := e2
              subst hve
              clear e2 HC4
              go_wp2_with fail
              with_reducible refine HVf.out.mono ?_
              rintro e wv ⟨rfl, hw⟩
              subst hw
              go_wp2
              go_roundw
              case rel => exact ⟨i + 1, k + 1, _, tl, updF nx q ty, opf, by omega, by omega, by go_num, by omega, ST6.out⟩
              case measure => simp [intOf]; omega
            · skip
              subst e1 e2
              have hve : tv = v + 1 := e4
              subst hve
              have hne : ¬ ((opf q : Nat) : Int) = 1 := by rw [← hop]; omega
              clear e3 e4 HC4
              go_wp2_with fail
              with_reducible refine HVf.out.mono ?_
              rintro e wv ⟨rfl, hw⟩
              subst hw
              go_wp2
              go_roundw
              case rel => exact ⟨i + 1, k + 1, _, tl, updF nx q ty, opf, by omega, by omega, by go_num, by omega, ST6.out⟩
              case measure => simp [intOf]; omega
            · skip
              subst e1
              have hve : tv = v := e3
              subst hve
              have hne : ((tE : Int) == 0) = false := by simpa using e2
              clear e3 e2 HC4
              go_wp2_with fail
              with_reducible refine HVf.out.mono ?_
              rintro e wv ⟨rfl, hw⟩
              subst hw
              go_wp2
              go_roundw
              case rel => exact ⟨i + 1, k + 1, _, tl, updF nx q ty, opf, by omega, by omega, by go_num, by omega, ST6.out⟩
              case measure => simp [intOf]; omega
            · skip
              subst e1 e2
              have hve : tv = v := e4
              subst hve
              have hne : ((opf q : Nat) : Int) = 1 := by rw [← hop]; omega
              rw [hne] at o0
              clear e3 e4 HC4
              go_wp2_with fail
              with_reducible refine HVf.out.mono ?_
              rintro e wv ⟨rfl, hw⟩
              subst hw
              go_wp2
              go_roundw
              case rel => exact ⟨i + 1, k + 1, _, tl, updF nx q ty, opf, by omega, by omega, by go_num, by omega, ST6.out⟩
              case measure => simp [intOf]; omega
        · have hy' : ¬ (fo : Int) = 0 := by omega
          rcases hp : isNx (nx q) with _ | _
          · have hnn : nx q = .none := by
              cases hx : nx q <;> simp [isNx, hx] at hp ⊢
            have HSS := Lib.hid (startC w w4 s b bw [O] k v l nx ST4.out.c q (by omega) hnn fo (by omega) hfo4 pA km pc _ HA4.out (by omega) cx (fun _ => hcv))
            go_wp2_with fail
            with_reducible refine HSS.out.mono ?_
            rintro e w5 ⟨rfl, c5, hf5⟩
            have hPo : P ∉ [s, b, bw] := fun hh => HPN.out (by simp only [List.mem_cons, List.not_mem_nil, or_false] at hh ⊢; rcases hh with h | h | h <;> simp [h])
            have kp5 := KQ.out.off hf5 hPo
            have p0 := kp5.cell 0 _ rfl
            have p1 := kp5.cell 1 _ rfl
            have pl := kp5.lt
            have hob := ST4.out.ob.off hf5 ST4.out.on
            have o0 := hob.cell q hq4
            have of := hob.froz q hq4
            have ol := hob.lt
            have st6 := ST4.out.start hq4 hfo4 c5 hf5
            clear c0 c1 c2 c3 lP hob kp5 KQ HSS HPN
            have HVf := Lib.hid (versionC w _ s b bw [O] k v l _ (st6).c (by omega))
            have STf := Lib.hid (st6)
            go_wp2_with fail
            with_reducible refine HVf.out.mono ?_
            rintro e wv ⟨rfl, hw⟩
            subst hw
            go_wp2
            go_roundw
            case rel => exact ⟨i + 1, k, v, l, _, _, by omega, by omega, by go_num, by omega, STf.out⟩
            case measure => simp [intOf]; omega
          · have HSS := Lib.hid (startBusyC w w4 s b bw [O] k v l nx ST4.out.c q (by omega) hp fo (by omega) hfo4 pA km pc (by omega) cx hcv)
            go_wp2_with fail
            with_reducible refine HSS.out.mono ?_
            rintro e w5 ⟨rfl, hw⟩
            subst hw
            have HVf := Lib.hid (versionC w w4 s b bw [O] k v l nx (ST4.out).c (by omega))
            have STf := Lib.hid (ST4.out)
            go_wp2_with fail
            with_reducible refine HVf.out.mono ?_
            rintro e wv ⟨rfl, hw⟩
            subst hw
            go_wp2
            go_roundw
            case rel => exact ⟨i + 1, k, v, l, nx, opf, by omega, by omega, by go_num, by omega, STf.out⟩
            case measure => simp [intOf]; omega
      · have h3' : (300 : Int) ≤ (i : Int) := by omega
        have S1 := Lib.hid (ST.out.alloc (.cells #[.int .i64 who, .int .u8 (op : Int), .slice pA pn pc, .int .i64 px] 72))
        go_wp2
        go_ret
        exact ⟨rfl, S1.out.c.bel⟩
    · obtain rfl : i = n := by omega
      have j1 : ¬ (i : Int) < (i : Int) := by omega
      have S1 := Lib.hid st
      clear st
      go_wp2
      go_ret
      exact ⟨rfl, S1.out.c.bel⟩
end Go.Proofs.Ytpjgpiiibgogeaa
