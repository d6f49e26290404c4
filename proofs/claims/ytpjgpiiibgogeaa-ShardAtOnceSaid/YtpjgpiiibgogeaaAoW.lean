/- The law ShardAtOnce: its walk. -/
import Derived.Test.YtpjgpiiibgogeaaEnE
import Derived.Outline
namespace Go.Proofs.Ytpjgpiiibgogeaa
open Go.RowKit
set_option maxRecDepth 100000
set_option linter.unusedVariables false

def AoInv (w : World) (s b bw O n : Nat) (lv iv : Value) (wr : World) : Prop :=
  ∃ i k v l nx pk A2 cd es, i ≤ n ∧ i ≤ 300 ∧ lv = .slice A2 l.length cd ∧ iv = .int .i64 ((i : Nat) : Int) ∧ k ≤ i + 1 ∧ l.length ≤ i ∧ AoS w wr s b bw O k v l nx pk A2 cd es
abbrev zPk : PkV := ⟨0, 0, none, 0, 0, [], 0⟩
theorem blk16 {w : World} {O : Nat} (kb : BlkL w O [.int .i64 0, .int .u8 0, .slice none 0 0, .int .i64 0, .int .i64 0, .int .u8 0, .slice none 0 0, .int .i64 0, .int .i64 0, .int .u8 0, .slice none 0 0, .int .i64 0, .int .i64 0, .int .u8 0, .slice none 0 0, .int .i64 0]) : BlkF w O 16 (pkF fun _ => zPk) := by
  refine ⟨kb.lt, fun i hi => ?_, fun i hi => kb.froz i hi⟩
  rcases (by omega : i = 0 ∨ i = 1 ∨ i = 2 ∨ i = 3 ∨ i = 4 ∨ i = 5 ∨ i = 6 ∨ i = 7 ∨ i = 8 ∨ i = 9 ∨ i = 10 ∨ i = 11 ∨ i = 12 ∨ i = 13 ∨ i = 14 ∨ i = 15) with rfl | rfl | rfl | rfl | rfl | rfl | rfl | rfl | rfl | rfl | rfl | rfl | rfl | rfl | rfl | rfl
  · exact kb.cell 0 _ rfl
  · exact kb.cell 1 _ rfl
  · exact kb.cell 2 _ rfl
  · exact kb.cell 3 _ rfl
  · exact kb.cell 4 _ rfl
  · exact kb.cell 5 _ rfl
  · exact kb.cell 6 _ rfl
  · exact kb.cell 7 _ rfl
  · exact kb.cell 8 _ rfl
  · exact kb.cell 9 _ rfl
  · exact kb.cell 10 _ rfl
  · exact kb.cell 11 _ rfl
  · exact kb.cell 12 _ rfl
  · exact kb.cell 13 _ rfl
  · exact kb.cell 14 _ rfl
  · exact kb.cell 15 _ rfl
set_option maxHeartbeats 12800000 in
theorem shardAtOnce_walk (A : Option Addr) (n d : Nat) (l0 : List PkV) (w : World) (h : ScrA w w.heap.size A n d l0) (hd : d ≤ 8796093021952) :
    Calls Try.prog 10 #[.slice A n d] w (ValEnd w (.bool true)) := by
  have hle := h.arg.le
  have HAG := Lib.hid h
  clear h
  go_enter Try.func10, Try.ntmps10
  go_wp2_with fail
  with_reducible refine (awake14_any _).mono ?_
  rintro e w1 ⟨rfl, hB⟩
  have HB1 := Lib.hid hB
  have HN := Lib.hid (newC w1)
  clear hB
  go_wp2_with fail
  with_reducible refine HN.out.mono ?_
  rintro e w2 ⟨s, b, bw, rfl, c2⟩
  have hsz1 := HB1.out.size
  have c2' : ShC w w2 s b bw [] 1 1 [] (fun _ => .none) := ⟨c2.sh, Nat.le_trans hsz1 c2.bs, Nat.le_trans hsz1 c2.bb, Nat.le_trans hsz1 c2.bbw, HB1.out.trans (c2.bel.mono hsz1)⟩
  have c3 := c2'.newX (.cells #[.int .i64 0, .int .u8 0, .slice none 0 0, .int .i64 0, .int .i64 0, .int .u8 0, .slice none 0 0, .int .i64 0, .int .i64 0, .int .u8 0, .slice none 0 0, .int .i64 0, .int .i64 0, .int .u8 0, .slice none 0 0, .int .i64 0] 103)
  have kb := BlkL.new w2 [.int .i64 0, .int .u8 0, .slice none 0 0, .int .i64 0, .int .i64 0, .int .u8 0, .slice none 0 0, .int .i64 0, .int .i64 0, .int .u8 0, .slice none 0 0, .int .i64 0, .int .i64 0, .int .u8 0, .slice none 0 0, .int .i64 0] 103
  have hnb := c2'.newb
  have s0 : AoS w (w2.alloc (.cells #[.int .i64 0, .int .u8 0, .slice none 0 0, .int .i64 0, .int .i64 0, .int .u8 0, .slice none 0 0, .int .i64 0, .int .i64 0, .int .u8 0, .slice none 0 0, .int .i64 0, .int .i64 0, .int .u8 0, .slice none 0 0, .int .i64 0] 103)) s b bw w2.heap.size 1 1 [] (fun _ => .none) (fun _ => zPk) none 0 [] :=
    ⟨c3, blk16 kb, hnb, c2'.bel.size, fun j hj => trivial, fun j hj hjp => by simp [isNx] at hjp, VerA.nil _ _ _, rfl⟩
  have S0 := Lib.hid s0
  clear s0 c2 c2' c3 kb hnb HN
  go_wp2
  go_loopw [4, 17] (fun lv iv wr => AoInv w s b bw w2.heap.size n lv iv wr) (fun _ iv _ => n - (intOf iv).toNat)
  case atStart => exact ⟨0, 1, 1, [], _, _, _, _, _, Nat.zero_le _, by omega, rfl, rfl, by omega, Nat.le_refl _, S0.out⟩
  case round =>
    obtain ⟨i, k, v, l, nx, pk, A2, cd, es, hi, hi3, rfl, rfl, hk, hll, st⟩ := hrel
    clear S0
    generalize w2.heap.size = O at st
    rcases Nat.lt_or_ge i n with hin | hin
    · obtain ⟨bb, off, eA, hbb, q0, q1, q2, q3, harg, hok⟩ := (HAG.out.below st.c.bel).at_ hin
      subst eA
      have hbs := st.c.bel.size
      have HPM := Lib.hid (pk_mem (l := l0) (i := i) (by rw [HAG.out.len]; exact hin))
      generalize l0.getD i noPk = p at q0 q1 q2 q3 harg hok HPM
      obtain ⟨who, op, pA, pn, pc, pz, px⟩ := p
      simp only at q0 q1 q2 q3 harg
      have j0 : (0 : Int) ≤ (i : Int) := by omega
      have j1 : (i : Int) < (n : Int) := by omega
      have hbb2 : bb < wr.heap.size := by omega
      have hple := harg.le
      have hpc := hok.kc
      have hw0 := hok.w0
      have hw1 := hok.w1
      have ho255 := hok.o1
      have hx0 := hok.x0
      have hx1 := hok.x1
      simp only at hpc hw0 hw1 ho255 hx0 hx1
      have ST := Lib.hid st
      clear st hok
      rcases Nat.lt_or_ge i 300 with h3 | h3
      · have h3' : ¬ (300 : Int) ≤ (i : Int) := by omega
        obtain ⟨q, hq⟩ : ∃ q : Nat, (q : Int) = who % 4 := ⟨(who % 4).toNat, by omega⟩
        have hq4 : q < 4 := by omega
        obtain ⟨km, hkm⟩ : ∃ km : Nat, km = min pn 3 := ⟨_, rfl⟩
        have hkm3 : km ≤ 3 := by omega
        have hkmn : km ≤ pn := by omega
        obtain ⟨fo, hfo⟩ : ∃ fo : Nat, fo = fitOp op := ⟨_, rfl⟩
        have hfo4 : fo ≤ 4 := by rw [hfo]; exact fitOp_le op
        have HF := Lib.hid (fit_any (wr.alloc (.cells #[.int .i64 who, .int .u8 (op : Int), .slice pA pn pc, .int .i64 px] 72)) who op pA pn pc px ho255 hx1 hple (by omega) km hkm q hq fo hfo)
        have hkey := harg.take hkmn
        have HKEY := Lib.hid hkey
        clear hq hkm hfo hkey harg
        have kP0 := Lib.hid (BlkL.new wr [.int .i64 who, .int .u8 (op : Int), .slice pA pn pc, .int .i64 px] 72)
        have hbP : Below wr.heap.size wr (wr.alloc (.cells #[.int .i64 who, .int .u8 (op : Int), .slice pA pn pc, .int .i64 px] 72)) := (Below.refl _ _).alloc (Nat.le_refl _) _
        have HBP := Lib.hid hbP
        clear hbP
        go_wp2_with fail
        with_reducible refine HF.out.mono ?_
        rintro e w3 ⟨rfl, hb3⟩
        have kP := kP0.out.below hb3
        have HB3 := Lib.hid (HBP.out.trans (hb3.mono HBP.out.size))
        have KP := Lib.hid kP
        have c0 := kP.cell 0 _ rfl
        have c1 := kP.cell 1 _ rfl
        have c2 := kP.cell 2 _ rfl
        have c3 := kP.cell 3 _ rfl
        have f0 := kP.froz 0 (by simp)
        have f1 := kP.froz 1 (by simp)
        have f2 := kP.froz 2 (by simp)
        have f3 := kP.froz 3 (by simp)
        have lP := kP.lt
        clear kP hb3 kP0 HF HBP
        rcases Nat.eq_zero_or_pos fo with hf0 | hf0
        · subst hf0
          go_wp2_with fail
          have kQ := KP.out.put4 (.int .i64 (q : Int)) (.int .u8 0) (.slice pA km pc) (.int .i64 (clampV px))
          have hbQ := below_put4 HB3.out (b := wr.heap.size) (Nat.le_refl _) (.int .i64 (q : Int)) (.int .u8 0) (.slice pA km pc) (.int .i64 (clampV px))
          clear c0 c1 c2 c3 f0 f1 f2 f3 lP KP
          generalize (((w3.setCell ⟨wr.heap.size, 0, none⟩ (.int .i64 (q : Int))).setCell ⟨wr.heap.size, 1, none⟩ (.int .u8 0)).setCell ⟨wr.heap.size, 2, none⟩ (.slice pA km pc)).setCell ⟨wr.heap.size, 3, none⟩ (.int .i64 (clampV px)) = w4 at *
          have st4 := ST.out.below hbQ
          have harg4 := (HKEY.out.below (hbQ.mono ST.out.c.bel.size)).more (B' := w4.heap.size) st4.c.bel.size
          have c0 := kQ.cell 0 _ rfl
          have c1 := kQ.cell 1 _ rfl
          have c2 := kQ.cell 2 _ rfl
          have c3 := kQ.cell 3 _ rfl
          have lP := kQ.lt
          have hPn : wr.heap.size ∉ s :: b :: bw :: [O] := ST.out.c.newb
          have hcv := clampV_bd px
          have hkk : k < 9223372036854775807 := by omega
          have hl4 : l.length < 4096 := by omega
          have hvk := st4.c.wfv.2.1
          have ST4 := Lib.hid st4
          have KQ := Lib.hid kQ
          have HA4 := Lib.hid harg4
          have HA0 := Lib.hid (((HAG.out.key _ HPM.out).1).take hkmn)
          have HPN := Lib.hid hPn
          clear st4 kQ harg4 hPn hbQ HB3 ST HKEY
          generalize clampV px = cx at *
          generalize wr.heap.size = P at *
          have q0 : (0 : Int) ≤ (q : Int) := by omega
          have q4' : (q : Int) < 4 := by omega
          have HPD := Lib.hid (pendC w w4 s b bw [O] k v l nx ST4.out.c q (by omega) _ rfl)
          rcases hp : isNx (nx q) with _ | _
          · rw [hp] at HPD
            go_wp2_with fail
            with_reducible refine HPD.out.mono ?_
            rintro e w5 ⟨rfl, hw⟩
            subst hw
            go_wp2
            go_roundw
            case rel => exact ⟨i + 1, k, v, l, nx, pk, A2, cd, es, by omega, by omega, rfl, by go_num, by omega, by omega, ST4.out⟩
            case measure => simp [intOf]; omega
          · rw [hp] at HPD
            obtain ⟨hok, hka, hkn⟩ := ST4.out.ok q hq4 hp
            have HG := Lib.hid (ST4.out.good q hq4)
            have hdl := do_len (pk q).op (pk q).zs (pk q).x l
            have HSP := Lib.hid (stepC w w4 s b bw [O] k v l nx ST4.out.c hkk q (by omega) _ rfl hp _ rfl)
            have HW := Lib.hid (fun t (ht : stepX v l (nx q) = t) => ao_step hok hl4 HG.out hp ht)
            have HOK := Lib.hid hok
            have HKA := Lib.hid hka
            clear hok hka
            generalize ht : stepX v l (nx q) = t at HSP
            obtain ⟨⟨td, tE, tN⟩, tv, tl, ty⟩ := t
            have hW := HW.out _ ht
            simp only at HSP hW
            clear HW ht
            have HP1 := Lib.hid hp
            clear hp
            go_wp2_with fail
            with_reducible refine HPD.out.mono ?_
            rintro e w5 ⟨rfl, hw⟩
            subst hw
            go_wp2_with fail
            with_reducible refine HSP.out.mono ?_
            rintro e w5 ⟨rfl, c5, hf5⟩
            have hPo : P ∉ [s, b, bw] := fun hh => HPN.out (by simp only [List.mem_cons, List.not_mem_nil, or_false] at hh ⊢; rcases hh with h | h | h <;> simp [h])
            have kp5 := (KQ.out.off hf5 hPo).alloc (.cells #[.bool td, .int .i64 tE, .int .i64 tN] 79)
            have kr := BlkL.new w5 [.bool td, .int .i64 tE, .int .i64 tN] 79
            have hba : Below w5.heap.size w5 (w5.alloc (.cells #[.bool td, .int .i64 tE, .int .i64 tN] 79)) := (Below.refl _ _).alloc (Nat.le_refl _) _
            have heq := neqR
            clear c0 c1 c2 c3 lP KQ HPD HSP
            rcases hW with ⟨rfl, rfl, rfl, hev, hel, hg, hyp⟩ | ⟨rfl, hdo, hvl, rfl⟩
            · have hev' := hev.symm
              have hel' := hel.symm
              subst hev' hel'
              clear hev hel
              have st6 := (ST4.out.step0 hq4 HP1.out hg c5 hf5).below hba
              have HE := Lib.hid (entriesC _ _ _ _ _ _ _ _ _ _ st6.c)
              have p0 := kp5.cell 0 _ rfl
              have pl := kp5.lt
              have r0 := kr.cell 0 _ rfl
              have r1 := kr.cell 1 _ rfl
              have r2 := kr.cell 2 _ rfl
              have rl := kr.lt
              have ST6 := Lib.hid st6
              clear c5 hf5 kp5 kr hba st6 ST4
              go_wp2_with fail
              with_reducible refine HE.out.mono ?_
              rintro e w7 ⟨A3, c3, fs, rfl, hv3, he3, hb3⟩
              have st7 := ST6.out.below hb3
              have HSM := Lib.hid (same14_any w7 _ _ _ _ A3 A2 l.length c3 cd fs es hv3 st7.doc (he3.trans st7.eq.symm) (Nat.le_refl _) (Nat.le_refl _))
              have ST7 := Lib.hid st7
              clear st7 hv3 he3 hb3 HE
              go_wp2_with fail
              with_reducible refine HSM.out.mono ?_
              rintro e w8 ⟨rfl, hb8⟩
              have S8 := Lib.hid (ST7.out.below hb8)
              clear hb8 HSM
              go_wp2
              go_roundw
              case rel => exact ⟨i + 1, k + 1, _, _, _, pk, A2, cd, es, by omega, by omega, rfl, by go_num, by omega, by omega, S8.out⟩
              case measure => simp [intOf]; omega
            · have hdl5 : tl.length ≤ l.length + 1 := by rw [hdo] at hdl; exact hdl
              have hob := (ST4.out.ob.off hf5 ST4.out.on).off (Off.of_below (S := []) hba) (by simp)
              have o0 : (w5.alloc (.cells #[.bool true, .int .i64 tE, .int .i64 tN] 79)).cell? ⟨O, q * 4, none⟩ = some (.int .i64 (pk q).who) := (hob.cell (q * 4) (by omega)).trans (congrArg some (pkF_at pk q 0 (by omega)))
              have o1 : (w5.alloc (.cells #[.bool true, .int .i64 tE, .int .i64 tN] 79)).cell? ⟨O, q * 4 + 1, none⟩ = some (.int .u8 ((pk q).op : Int)) := (hob.cell (q * 4 + 1) (by omega)).trans (congrArg some (pkF_at pk q 1 (by omega)))
              have o2 : (w5.alloc (.cells #[.bool true, .int .i64 tE, .int .i64 tN] 79)).cell? ⟨O, q * 4 + 1 + 1, none⟩ = some (.slice (pk q).A (pk q).n (pk q).c) := (hob.cell (q * 4 + 1 + 1) (by omega)).trans (congrArg some (pkF_at pk q 2 (by omega)))
              have o3 : (w5.alloc (.cells #[.bool true, .int .i64 tE, .int .i64 tN] 79)).cell? ⟨O, q * 4 + 1 + 1 + 1, none⟩ = some (.int .i64 (pk q).x) := (hob.cell (q * 4 + 1 + 1 + 1) (by omega)).trans (congrArg some (pkF_at pk q 3 (by omega)))
              have ol := hob.lt
              have hd5 := ((ST4.out.doc.off (Nat.le_refl _) (hf5.mono (S' := [s, b, bw, O]) (by intro x hx; simp only [List.mem_cons, List.not_mem_nil, or_false] at hx ⊢; rcases hx with h | h | h <;> simp [h]))).more hf5.size)
              have hd6 := (hd5.below hba).more hba.size
              have hlt6 : ∀ x ∈ [s, b, bw, O], x < (w5.alloc (.cells #[.bool true, .int .i64 tE, .int .i64 tN] 79)).heap.size := fun x hx => Nat.lt_of_lt_of_le (ST4.out.lt x hx) (Nat.le_trans hf5.size hba.size)
              have hB6 : w.heap.size ≤ (w5.alloc (.cells #[.bool true, .int .i64 tE, .int .i64 tN] 79)).heap.size := Nat.le_trans c5.bel.size hba.size
              have hka6 := HKA.out.below (c5.bel.trans (hba.mono c5.bel.size))
              have HD := Lib.hid (done_any _ _ w.heap.size _ _ _ _ _ _ _ _ _ (pk q).who _ _ HOK.out hd6 hka6 hkn (by rw [ST4.out.eq]; exact ST4.out.c.wfv.1) (by omega) (Nat.le_refl _) hB6 (hka6.apt_ge ST4.out.ge) hlt6)
              rw [ST4.out.eq, hdo] at HD
              have HC5 := Lib.hid (And.intro c5 hf5)
              have p0 := kp5.cell 0 _ rfl
              have pl := kp5.lt
              have r0 := kr.cell 0 _ rfl
              have r1 := kr.cell 1 _ rfl
              have r2 := kr.cell 2 _ rfl
              have rl := kr.lt
              have HR := Lib.hid kr
              have HBA := Lib.hid hba
              have HVL := Lib.hid hvl
              clear c5 hf5 kp5 kr hba hob hd5 hd6 hlt6 hka6 hdo hvl
              generalize pk q = pq at *
              go_wp2_with fail
              with_reducible refine HD.out.mono ?_
              rintro e w7 ⟨A3, n3, c3, fs, rfl, hv7, he7, hb7⟩
              have hn3 : n3 = tl.length := by rw [← hv7.len, ← he7, List.length_map]
              subst hn3
              have hb6 : Below w5.heap.size w5 w7 := HBA.out.trans (hb7.mono HBA.out.size)
              have kr7 := (HR.out.below hb7).alloc (.cells #[.bool true, .int .i64 tE, .int .i64 tN] 79)
              have kd7 := BlkL.new w7 [.bool true, .int .i64 tE, .int .i64 tN] 79
              have hba : Below w7.heap.size w7 (w7.alloc (.cells #[.bool true, .int .i64 tE, .int .i64 tN] 79)) := (Below.refl _ _).alloc (Nat.le_refl _) _
              have hb8 := hb6.trans (hba.mono hb6.size)
              have hf8 := HC5.out.2.trans (Off.of_below (S := [s, b, bw]) hb8)
              have st8 := ST4.out.step1 hq4 HVL.out (HC5.out.1.below hb8) hf8 ((hv7.below hba).more hba.size) he7
              have HE := Lib.hid (entriesC _ _ _ _ _ _ _ _ _ _ st8.c)
              clear r0 r1 r2 rl o0 o1 o2 o3 ol p0 pl
              have r0 := kr7.cell 0 _ rfl
              have r1 := kr7.cell 1 _ rfl
              have r2 := kr7.cell 2 _ rfl
              have rl := kr7.lt
              have t0 := kd7.cell 0 _ rfl
              have t1 := kd7.cell 1 _ rfl
              have t2 := kd7.cell 2 _ rfl
              have tl8 := kd7.lt
              have ST8 := Lib.hid st8
              clear st8 hb8 hb6 hf8 hba kr7 kd7 hv7 he7 hb7 HC5 HR HBA HVL HD ST4 HKA HOK HG hkn
              go_wp2_with fail
              with_reducible refine HE.out.mono ?_
              rintro e w9 ⟨A4, c4, gs, rfl, hv9, he9, hb9⟩
              have st9 := ST8.out.below hb9
              have HSM := Lib.hid (same14_any w9 _ _ _ _ A4 A3 tl.length c4 c3 gs fs hv9 st9.doc (he9.trans st9.eq.symm) (Nat.le_refl _) (Nat.le_refl _))
              have ST9 := Lib.hid st9
              clear st9 hv9 he9 hb9 HE
              go_wp2_with fail
              with_reducible refine HSM.out.mono ?_
              rintro e w10 ⟨rfl, hb10⟩
              have S10 := Lib.hid (ST9.out.below hb10)
              clear hb10 HSM
              go_wp2
              go_roundw
              case rel => exact ⟨i + 1, k + 1, _, _, _, pk, A3, c3, fs, by omega, by omega, rfl, by go_num, by omega, by omega, S10.out⟩
              case measure => simp [intOf]; omega
        · have hy' : ¬ (fo : Int) = 0 := by omega
          go_wp2_with fail
          have kQ := KP.out.put4 (.int .i64 (q : Int)) (.int .u8 (fo : Int)) (.slice pA km pc) (.int .i64 (clampV px))
          have hbQ := below_put4 HB3.out (b := wr.heap.size) (Nat.le_refl _) (.int .i64 (q : Int)) (.int .u8 (fo : Int)) (.slice pA km pc) (.int .i64 (clampV px))
          clear c0 c1 c2 c3 f0 f1 f2 f3 lP KP
          generalize (((w3.setCell ⟨wr.heap.size, 0, none⟩ (.int .i64 (q : Int))).setCell ⟨wr.heap.size, 1, none⟩ (.int .u8 (fo : Int))).setCell ⟨wr.heap.size, 2, none⟩ (.slice pA km pc)).setCell ⟨wr.heap.size, 3, none⟩ (.int .i64 (clampV px)) = w4 at *
          have st4 := ST.out.below hbQ
          have harg4 := (HKEY.out.below (hbQ.mono ST.out.c.bel.size)).more (B' := w4.heap.size) st4.c.bel.size
          have c0 := kQ.cell 0 _ rfl
          have c1 := kQ.cell 1 _ rfl
          have c2 := kQ.cell 2 _ rfl
          have c3 := kQ.cell 3 _ rfl
          have lP := kQ.lt
          have hPn : wr.heap.size ∉ s :: b :: bw :: [O] := ST.out.c.newb
          have hcv := clampV_bd px
          have hkk : k < 9223372036854775807 := by omega
          have hl4 : l.length < 4096 := by omega
          have hvk := st4.c.wfv.2.1
          have ST4 := Lib.hid st4
          have KQ := Lib.hid kQ
          have HA4 := Lib.hid harg4
          have HA0 := Lib.hid (((HAG.out.key _ HPM.out).1).take hkmn)
          have HPN := Lib.hid hPn
          clear st4 kQ harg4 hPn hbQ HB3 ST HKEY
          generalize clampV px = cx at *
          generalize wr.heap.size = P at *
          have q0 : (0 : Int) ≤ (q : Int) := by omega
          have q4' : (q : Int) < 4 := by omega
          have HPD := Lib.hid (pendC w w4 s b bw [O] k v l nx ST4.out.c q (by omega) _ rfl)
          rcases hp : isNx (nx q) with _ | _
          · rw [hp] at HPD
            have hnn : nx q = .none := by
              cases hx : nx q <;> simp [isNx, hx] at hp ⊢
            have HSS := Lib.hid (startC w w4 s b bw [O] k v l nx ST4.out.c q (by omega) hnn fo (by omega) hfo4 pA km pc _ HA4.out (by omega) cx (fun _ => hcv))
            go_wp2_with fail
            with_reducible refine HPD.out.mono ?_
            rintro e w5 ⟨rfl, hw⟩
            subst hw
            go_wp2_with fail
            with_reducible refine HSS.out.mono ?_
            rintro e w5 ⟨rfl, c5, hf5⟩
            have hPo : P ∉ [s, b, bw] := fun hh => HPN.out (by simp only [List.mem_cons, List.not_mem_nil, or_false] at hh ⊢; rcases hh with h | h | h <;> simp [h])
            have kp5 := KQ.out.off hf5 hPo
            have p0 := kp5.cell 0 _ rfl
            have p1 := kp5.cell 1 _ rfl
            have p2 := kp5.cell 2 _ rfl
            have p3 := kp5.cell 3 _ rfl
            have pl := kp5.lt
            have hob := ST4.out.ob.off hf5 ST4.out.on
            have o0 := hob.cell (q * 4) (by omega)
            have o1 := hob.cell (q * 4 + 1) (by omega)
            have o2 := hob.cell (q * 4 + 1 + 1) (by omega)
            have o3 := hob.cell (q * 4 + 1 + 1 + 1) (by omega)
            have g0 := hob.froz (q * 4) (by omega)
            have g1 := hob.froz (q * 4 + 1) (by omega)
            have g2 := hob.froz (q * 4 + 1 + 1) (by omega)
            have g3 := hob.froz (q * 4 + 1 + 1 + 1) (by omega)
            have ol := hob.lt
            have HST := Lib.hid (ST4.out.start (p := ⟨(q : Int), fo, pA, km, pc, _, cx⟩) hq4 ⟨hf0, hfo4, fun _ => hcv, Nat.le_trans (Nat.le_of_eq HA4.out.len) (by omega)⟩ HA0.out (show km ≤ 256 by omega) c5 hf5)
            clear c0 c1 c2 c3 lP hob kp5 KQ HSS HPN c5 hf5
            go_wp2
            go_roundw
            case rel => exact ⟨i + 1, k, v, l, _, _, A2, cd, es, by omega, by omega, rfl, by go_num, by omega, by omega, HST.out⟩
            case measure => simp [intOf]; omega
          · rw [hp] at HPD
            have HSS := Lib.hid (startBusyC w w4 s b bw [O] k v l nx ST4.out.c q (by omega) hp fo (by omega) hfo4 pA km pc (by omega) cx hcv)
            go_wp2_with fail
            with_reducible refine HPD.out.mono ?_
            rintro e w5 ⟨rfl, hw⟩
            subst hw
            go_wp2_with fail
            with_reducible refine HSS.out.mono ?_
            rintro e w5 ⟨rfl, hw⟩
            subst hw
            go_wp2
            go_roundw
            case rel => exact ⟨i + 1, k, v, l, nx, pk, A2, cd, es, by omega, by omega, rfl, by go_num, by omega, by omega, ST4.out⟩
            case measure => simp [intOf]; omega
      · have h3' : (300 : Int) ≤ (i : Int) := by omega
        have S1 := Lib.hid (ST.out.alloc (.cells #[.int .i64 who, .int .u8 (op : Int), .slice pA pn pc, .int .i64 px] 72))
        go_wp2
        go_ret
        exact ⟨rfl, S1.out.c.bel⟩
    · obtain rfl : i = n := by omega
      have j1 : ¬ (i : Int) < (i : Int) := by omega
      have S1 := Lib.hid st
      clear st
      go_wp2
      go_ret
      exact ⟨rfl, S1.out.c.bel⟩
end Go.Proofs.Ytpjgpiiibgogeaa
