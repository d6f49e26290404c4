/- The law CountHolds: its walk. -/
import Derived.Test.YtddadlomkodgcaaHoP
import Derived.Outline
namespace Go.Proofs.Ytddadlomkodgcaa
open Go.RowKit
set_option maxRecDepth 100000
set_option linter.unusedVariables false

theorem pstep_any {w wr : World} {top c b bw pb i v k ups dn : Nat} {calls : List CallV} {ops : Nat → Int} {si sw : Nat → Nat}
    (h : HoM w top c b bw pb wr v k ups dn calls ops si sw) (I : HoI top i v k ups dn calls ops si sw) (hi : i < 100000) (htop : top ≤ 4) (q : Nat) (hq : q < 64) :
    Calls Try.prog 36 #[.pointer (some ⟨pb, 0, none⟩), .int .i64 (q : Int)] wr (PsEnd w top c b bw pb i v calls q) := by
  obtain ⟨x, hx⟩ : ∃ x, calls.getD q noCall = x := ⟨_, rfl⟩
  have hok := I.okc q hq
  rw [hx] at hok
  have h3 := hok.op
  have hvt := I.vt
  by_cases h0 : x.op = 0
  · exact pstep_none h I hi htop q hq x hx h0
  · rcases hl : x.ld with _ | _
    · by_cases o3 : x.op = 3
      · exact pstep_read h I hi htop q hq x hx o3 hl
      · by_cases o1 : x.op = 1
        · by_cases hv : v = top
          · exact pstep_full h I hi htop q hq x hx o1 hl hv
          · exact pstep_load h I hi htop q hq x hx h0 hl (by unfold stepO; rw [hl, if_neg (by decide), if_neg o3, if_pos o1, if_neg hv, o1]) (.inl ⟨o1, by omega⟩)
        · have o2 : x.op = 2 := by omega
          by_cases hv : v = 0
          · exact pstep_range h I hi htop q hq x hx o2 hl hv
          · exact pstep_load h I hi htop q hq x hx h0 hl (by unfold stepO; rw [hl, if_neg (by decide), if_neg o3, if_neg o1, if_neg hv, o2]) (.inr ⟨o2, by omega, hvt⟩)
    · have hld := hok.ld hl
      by_cases hv : v = x.old
      · rcases hld with ⟨o1, _⟩ | ⟨o2, _⟩
        · exact pstep_up h I hi htop q hq x hx o1 hl hv
        · exact pstep_down h I hi htop q hq x hx o2 hl hv
      · exact pstep_fail h I hi htop q hq x hx h0 hl hv
theorem pz_take : Try.zeroCells92.toList = .pointer none :: .int .i64 0 :: .int .i64 0 :: .int .i64 0 :: (List.replicate 64 (.int .u8 0) ++ List.replicate 128 (.int .i64 0)) := by kernel_rfl
theorem pz_set (u : Value) : Try.zeroCells92.setIfInBounds 1 u = (.pointer none :: u :: .int .i64 0 :: .int .i64 0 :: (List.replicate 64 (.int .u8 0) ++ List.replicate 128 (.int .i64 0)) : List Value).toArray := by
  apply Array.ext'
  rw [Array.toList_setIfInBounds, pz_take]
  rfl
theorem cons4_at {α : Type} (a b c d : α) (r : List α) (i : Nat) : (a :: b :: c :: d :: r)[4 + i]? = r[i]? := by rw [Nat.add_comm 4 i]; rfl
theorem played_new {w : World} {pb : Nat} {top : Int} (h : BlkL w pb (.pointer none :: .int .i64 top :: .int .i64 0 :: .int .i64 0 :: (List.replicate 64 (.int .u8 0) ++ List.replicate 128 (.int .i64 0)))) :
    PlB w pb (.pointer none) top ((0 : Nat) : Int) ((0 : Nat) : Int) (fun _ => 0) (fun _ => 0) (fun _ => 0) := by
  refine ⟨h.lt, h.cell 0 _ rfl, h.cell 1 _ rfl, h.cell 2 _ rfl, h.cell 3 _ rfl, fun q hq => h.cell (4 + q) _ ?_, fun q hq => h.cell (68 + q) _ ?_, fun q hq => h.cell (132 + q) _ ?_, fun i hi => h.froz i (by simp; omega)⟩
  · rw [cons4_at, List.getElem?_append_left (by simp; omega), List.getElem?_replicate, if_pos hq]
  · rw [show 68 + q = 4 + (64 + q) by omega, cons4_at, List.getElem?_append_right (by simp), List.getElem?_replicate, if_pos (by simp; omega)]; rfl
  · rw [show 132 + q = 4 + (128 + q) by omega, cons4_at, List.getElem?_append_right (by simp; omega), List.getElem?_replicate, if_pos (by simp; omega)]; rfl
theorem value_q (w : World) (c b bw limit v k : Nat) (calls : List CallV) (h : CntS w c b bw limit v k calls) (hv : v ≤ 9223372036854775807) (t : Nat) :
    Calls Try.prog 34 #[.pointer (some ⟨c, 0, none⟩)] (w.drewN t) fun e w' => e = .returned (.int .i64 (v : Int)) ∧ w' = w.drewN t := by
  have hof : Off [] w (w.drewN t) := ⟨rfl, rfl, rfl, Nat.le_refl _, fun _ _ _ => rfl⟩
  exact (value_any (w.drewN t) c b bw limit v k calls (h.off hof (by simp) (by simp) (by simp)) hv).mono fun e w' ⟨h1, h2⟩ => ⟨h1, h2.symm⟩
def HoInv (w : World) (top c b bw pb n : Nat) (iv : Value) (wr : World) : Prop :=
  ∃ i v k ups dn calls ops si sw, i ≤ n ∧ i ≤ 300 ∧ iv = .int .i64 ((i : Nat) : Int) ∧ HoM w top c b bw pb wr v k ups dn calls ops si sw ∧ HoI top i v k ups dn calls ops si sw
def HoInv2 (w : World) (top c b bw pb : Nat) (iv : Value) (wr : World) : Prop :=
  ∃ q v k ups dn calls ops si sw, q ≤ 5 ∧ iv = .int .i64 ((q : Nat) : Int) ∧ HoM w top c b bw pb wr v k ups dn calls ops si sw ∧ HoI top (300 + 3 * q) v k ups dn calls ops si sw
def HoInv3 (w : World) (top c b bw pb q : Nat) (nv : Value) (wr : World) : Prop :=
  ∃ nn v k ups dn calls ops si sw, nn + rankV v (calls.getD q noCall) ≤ 3 ∧ nv = .int .i64 ((nn : Nat) : Int) ∧ HoM w top c b bw pb wr v k ups dn calls ops si sw ∧ HoI top (300 + 3 * q + nn) v k ups dn calls ops si sw
theorem rankV_pos {v : Nat} {x : CallV} (h : x.op ≠ 0) : 1 ≤ rankV v x := by
  unfold rankV; rw [if_neg h]; split
  · split <;> omega
  · omega
set_option maxHeartbeats 6400000 in
theorem countHolds_walk (lim : Int) (A : Option Addr) (n d : Nat) (l : List (Int × Int)) (w : World) (hl0 : 0 ≤ lim) (hl1 : lim ≤ 255) (h : ArgC w w.heap.size 2 A n d (FP l)) (hd : d ≤ 8796093021952) (hpk : okPick l) :
    Calls Try.prog 7 #[.int .u8 lim, .slice A n d] w (ValEnd w (.bool true)) := by
  have hle := h.le
  have HAG := Lib.hid h
  have HPK := Lib.hid hpk
  obtain ⟨top, htop⟩ : ∃ top : Nat, (top : Int) = lim % 5 := ⟨(lim % 5).toNat, by omega⟩
  have htop4 : top ≤ 4 := by omega
  clear h hpk
  go_enter Try.func7, Try.ntmps7
  go_wp2_with fail
  with_reducible refine (awake12_any _).mono ?_
  rintro e w1 ⟨rfl, hB⟩
  have HB1 := Lib.hid hB
  have hs1 := hB.size
  clear hB
  have L1 := w1.heap.size
  go_wp2_with fail
  rw [← htop]
  clear L1
  generalize hobj : World.alloc w1 _ = w2
  have P1 : Hid (PlB w2 w1.heap.size (.pointer none) (top : Int) ((0 : Nat) : Int) ((0 : Nat) : Int) (fun _ => 0) (fun _ => 0) (fun _ => 0)) := by
    rw [← hobj, pz_set]
    exact Lib.hid (played_new (BlkL.new w1 (.pointer none :: .int .i64 (top : Int) :: .int .i64 0 :: .int .i64 0 :: (List.replicate 64 (.int .u8 0) ++ List.replicate 128 (.int .i64 0)) : List Value) 92))
  have B1 : Hid (Below w.heap.size w w2) := by rw [← hobj]; exact Lib.hid (HB1.out.alloc hs1 _)
  have hz1 : w2.heap.size = w1.heap.size + 1 := by rw [← hobj]; simp
  clear hobj
  generalize hpb : w1.heap.size = pb at *
  clear hpb
  have HN := Lib.hid (cnew_ok w2 top (by omega))
  with_reducible refine HN.out.mono ?_
  rintro e w3 ⟨c, b, bw, rfl, hc, hb, hbw, h1, hB⟩
  have hs2 := hB.size
  have p3 := P1.out.off (S := []) (Off.of_below hB) (by simp)
  have lp3 := p3.lt
  have g0 := p3.fr 0 (by omega)
  have e0 := p3.c0
  have M0 : Hid (HoM w top c b bw pb (w3.setCell ⟨pb, 0, none⟩ (.pointer (some ⟨c, 0, none⟩))) 0 0 0 0 (List.replicate 64 noCall) (fun _ => 0) (fun _ => 0) (fun _ => 0)) := by
    refine Lib.hid ⟨h1.off (S := [pb]) ((Off.refl _ w3).setCell (by simp) _) (by simp; omega) (by simp; omega) (by simp; omega), p3.set0 _, (B1.out.trans (hB.mono (by omega))).setCell (p := ⟨pb, 0, none⟩) hs1 _, by omega, by omega, by omega, hs1, by simp; omega⟩
  have I0 : Hid (HoI top 0 0 0 0 0 (List.replicate 64 noCall) (fun _ => 0) (fun _ => 0) (fun _ => 0)) := by
    have g : ∀ j, (List.replicate 64 noCall).getD j noCall = noCall := by
      intro j
      rw [List.getD_eq_getElem?_getD, List.getElem?_replicate]
      split <;> rfl
    refine Lib.hid ⟨by simp, Nat.le_refl _, Nat.zero_le _, rfl, Nat.le_refl _, (fun j hj => by rw [g]; exact OkCall.none_ _), (fun j hj hn => by rw [g] at hn; exact absurd rfl hn), (fun j hj hn => by rw [g] at hn; exact absurd rfl hn), (fun j hj hn => by rw [g] at hn; cases hn), (fun j => Nat.le_refl _), (fun j => Nat.le_refl _)⟩
  clear h1 hB p3 HB1 P1 HN
  go_wp2
  go_loopw [42] (fun iv wr => HoInv w top c b bw pb n iv wr) (fun iv _ => n - (intOf iv).toNat)
  case atStart => exact ⟨0, 0, 0, 0, 0, _, _, _, _, Nat.zero_le _, by omega, rfl, M0.out, I0.out⟩
  case round =>
    obtain ⟨i, v, k, ups, dn, calls, ops, si, sw, hi, hi3, rfl, m, I⟩ := hrel
    clear M0 I0 e0 g0
    rcases Nat.lt_or_ge i n with hin | hin
    · obtain ⟨bb, off, eA, hbb, q0, q1⟩ := pick_at (HAG.out.below m.bel) hin
      have hx := okPick_at HPK.out i
      subst eA
      have hbs := m.bel.size
      generalize l.getD i (0, 0) = xy at q0 q1 hx
      obtain ⟨x, y⟩ := xy
      simp only at q0 q1 hx
      have j0 : (0 : Int) ≤ (i : Int) := by omega
      have j1 : (i : Int) < (n : Int) := by omega
      have hbb2 : bb < wr.heap.size := by omega
      rcases Nat.lt_or_ge i 300 with h3 | h3
      · have h3' : ¬ (300 : Int) ≤ (i : Int) := by omega
        have hwe := who5_eq x
        have hq5 := who5_lt x
        generalize who5 x = q at hwe hq5
        have qq0 : (0 : Int) ≤ (q : Int) := by omega
        have qq1 : (q : Int) < 64 := by omega
        by_cases hy : y = 0
        · subst hy
          have HP := Lib.hid (pstep_any (m.alloc (.cells #[.int .i64 x, .int .u8 0] 67)) I (by omega) htop4 q (by omega))
          clear m I
          go_wp2_with fail
          with_reducible refine HP.out.mono ?_
          rintro e w5 ⟨rfl, v', k', ups', dn', calls', ops', si', sw', m5, I5, _⟩
          have M5 := Lib.hid m5
          have I5 := Lib.hid I5
          clear m5
          go_wp2
          go_roundw
          case rel => exact ⟨i + 1, v', k', ups', dn', calls', ops', si', sw', by omega, by omega, by go_num, M5.out, I5.out⟩
          case measure => simp [intOf]; omega
        · have hy' : ¬ y = 0 := hy
          obtain ⟨op, hop⟩ : ∃ op : Nat, (op : Int) = 1 + y % 3 := ⟨(1 + y % 3).toNat, by omega⟩
          have ho1 : 1 ≤ op := by omega
          have ho3 : op ≤ 3 := by omega
          have M1 := Lib.hid (m.alloc (.cells #[.int .i64 x, .int .u8 y] 67))
          have HI := Lib.hid I
          obtain ⟨p, hp⟩ : ∃ p, p = calls.getD q noCall := ⟨_, rfl⟩
          clear m I
          by_cases hpo : p.op = 0
          · have HSS := Lib.hid (start_ok _ c b bw top v k calls M1.out.cnt q (by omega) op ho1 ho3 (by rw [← hp]; exact hpo))
            go_wp2_with fail
            rw [← hop]
            with_reducible refine HSS.out.mono ?_
            rintro e w5 ⟨rfl, h5, hf5⟩
            have M5 := Lib.hid (M1.out.act h5 hf5)
            clear h5 hf5
            have a0 := M5.out.pl.op q (by omega)
            have a1 := M5.out.pl.si q (by omega)
            have a2 := M5.out.pl.sw q (by omega)
            have f0 := M5.out.pl.fr (4 + q) (by omega)
            have f1 := M5.out.pl.fr (68 + q) (by omega)
            have f2 := M5.out.pl.fr (132 + q) (by omega)
            have lp5 := M5.out.pl.lt
            have M6 := Lib.hid (M5.out.put (M5.out.pl.setOp (j := q) (by omega) (op : Int)))
            have M7 := Lib.hid (M6.out.put (M6.out.pl.setSi (j := q) (by omega) 0))
            have M8 := Lib.hid (M7.out.put (M7.out.pl.setSw (j := q) (by omega) 0))
            go_wp2
            go_region
            go_wp2
            go_roundw
            case rel =>
              refine ⟨i + 1, v, k, ups, dn, calls.set q ⟨op, false, 0⟩, updI ops q op, updN si q 0, updN sw q 0, by omega, by omega, by go_num, by first | (rw [← hop]; exact M8.out.drew) | exact M8.out.drew, ?_⟩
              exact HI.out.turn (by omega) (Nat.le_succ k) (OkCall.fresh ho1 ho3) (fun _ => if_pos rfl) (fun _ => by rw [show updN si q 0 q = 0 from if_pos rfl]; rfl) (fun hn => by cases hn) (fun j hj => if_neg hj) (fun j hj => if_neg hj) (fun j hj => if_neg hj) (by rw [show updN si q 0 q = 0 from if_pos rfl]; omega) (by rw [show updN sw q 0 q = 0 from if_pos rfl]; omega)
            case measure => simp [intOf]; omega
          · have HSS := Lib.hid (start_busy _ c b bw top v k calls M1.out.cnt q (by omega) op ho1 ho3 (by rw [← hp]; exact hpo))
            go_wp2_with fail
            rw [← hop]
            with_reducible refine HSS.out.mono ?_
            rintro e w5 ⟨rfl, hw⟩
            subst hw
            go_wp2
            go_roundw
            case rel => exact ⟨i + 1, v, k, ups, dn, calls, ops, si, sw, by omega, by omega, by go_num, M1.out, HI.out.mono (Nat.le_succ i)⟩
            case measure => simp [intOf]; omega
      · have h3' : (300 : Int) ≤ (i : Int) := by omega
        have M1 := Lib.hid (m.alloc (.cells #[.int .i64 x, .int .u8 y] 67))
        have HI := Lib.hid (I.mono (i' := 300) hi3)
        clear m I
        go_wp2
        go_loopw [93] (fun iv wr => HoInv2 w top c b bw pb iv wr) (fun iv _ => 5 - (intOf iv).toNat)
        case atStart => exact ⟨0, v, k, ups, dn, calls, ops, si, sw, by omega, rfl, M1.out, HI.out⟩
        case round =>
          obtain ⟨q, v, k, ups, dn, calls, ops, si, sw, hq5, rfl, m, I⟩ := hrel
          clear M1 HI
          have M2 := Lib.hid m
          have I2 := Lib.hid I
          clear m I
          rcases Nat.lt_or_ge q 5 with hq | hq
          · have jq0 : (0 : Int) ≤ (q : Int) := by omega
            have jq1 : (q : Int) < 5 := by omega
            go_wp2
            go_loopw [14] (fun nv wr => HoInv3 w top c b bw pb q nv wr) (fun nv _ => 4 - (intOf nv).toNat)
            case atStart =>
              refine ⟨0, v, k, ups, dn, calls, ops, si, sw, ?_, rfl, M2.out, I2.out⟩
              unfold rankV; split
              · omega
              · split
                · split <;> omega
                · omega
            case round =>
              obtain ⟨nn, v, k, ups, dn, calls, ops, si, sw, hnn, rfl, m, I⟩ := hrel
              clear M2 I2
              obtain ⟨p, hp⟩ : ∃ p, p = calls.getD q noCall := ⟨_, rfl⟩
              have HPD := Lib.hid (pend_at _ c b bw top v k calls m.cnt q (by omega) p hp.symm)
              have HM := Lib.hid m
              have HI := Lib.hid I
              clear m I
              by_cases hpo : p.op = 0
              · rw [decide_eq_false (fun hn => hn hpo)] at HPD
                go_wp2_with fail
                with_reducible refine HPD.out.mono ?_
                rintro e w6 ⟨rfl, hw⟩
                subst hw
                go_wp2
                go_roundw
                case rel => exact ⟨q + 1, v, k, ups, dn, calls, ops, si, sw, by omega, by go_num, HM.out, HI.out.mono (by omega)⟩
                case measure => simp [intOf]; omega
              · rw [decide_eq_true hpo] at HPD
                have hrk := rankV_pos (v := v) hpo
                rw [hp] at hrk
                have hn3 : ¬ (3 : Int) ≤ (nn : Int) := by omega
                have hn0 : (0 : Int) ≤ (nn : Int) := by omega
                have HP := Lib.hid (pstep_any HM.out HI.out (by omega) htop4 q (by omega))
                go_wp2_with fail
                with_reducible refine HPD.out.mono ?_
                rintro e w6 ⟨rfl, hw⟩
                subst hw
                go_wp2_with fail
                with_reducible refine HP.out.mono ?_
                rintro e w7 ⟨rfl, v', k', ups', dn', calls', ops', si', sw', m7, I7, hr7⟩
                have M7 := Lib.hid m7
                have I7 := Lib.hid I7
                clear m7
                go_wp2
                go_roundw
                case rel => exact ⟨nn + 1, v', k', ups', dn', calls', ops', si', sw', by omega, by go_num, M7.out, I7.out⟩
                case measure => simp [intOf]; omega
          · obtain rfl : q = 5 := by omega
            have jq1 : ¬ ((5 : Nat) : Int) < 5 := by omega
            have hvud := I2.out.vud
            have hui := I2.out.ui
            have hvt := I2.out.vt
            have HVq := Lib.hid (fun t => value_q _ c b bw top v k calls M2.out.cnt (by omega) t)
            have e0 := M2.out.pl.c2
            have e3 := M2.out.pl.c3
            have lp := M2.out.pl.lt
            have hsub : (ups : Int) - (dn : Int) = (v : Int) := by omega
            go_wp2_with fail
            go_quiet (first | (go_at_call 34; with_reducible exact Calls.quiet_of_same (HVq.out _)))
            go_wp2
            go_ret
            exact ⟨rfl, (M2.out.drewN nq).bel⟩
    · obtain rfl : i = n := by omega
      have j1 : ¬ (i : Int) < (i : Int) := by omega
      have M1 := Lib.hid m
      have HI := Lib.hid (I.mono (i' := 300) hi3)
      clear m I
      go_wp2
      go_loopw [93] (fun iv wr => HoInv2 w top c b bw pb iv wr) (fun iv _ => 5 - (intOf iv).toNat)
      case atStart => exact ⟨0, v, k, ups, dn, calls, ops, si, sw, by omega, rfl, M1.out, HI.out⟩
      case round =>
        obtain ⟨q, v, k, ups, dn, calls, ops, si, sw, hq5, rfl, m, I⟩ := hrel
        clear M1 HI
        have M2 := Lib.hid m
        have I2 := Lib.hid I
        clear m I
        rcases Nat.lt_or_ge q 5 with hq | hq
        · have jq0 : (0 : Int) ≤ (q : Int) := by omega
          have jq1 : (q : Int) < 5 := by omega
          go_wp2
          go_loopw [14] (fun nv wr => HoInv3 w top c b bw pb q nv wr) (fun nv _ => 4 - (intOf nv).toNat)
          case atStart =>
            refine ⟨0, v, k, ups, dn, calls, ops, si, sw, ?_, rfl, M2.out, I2.out⟩
            unfold rankV; split
            · omega
            · split
              · split <;> omega
              · omega
          case round =>
            obtain ⟨nn, v, k, ups, dn, calls, ops, si, sw, hnn, rfl, m, I⟩ := hrel
            clear M2 I2
            obtain ⟨p, hp⟩ : ∃ p, p = calls.getD q noCall := ⟨_, rfl⟩
            have HPD := Lib.hid (pend_at _ c b bw top v k calls m.cnt q (by omega) p hp.symm)
            have HM := Lib.hid m
            have HI := Lib.hid I
            clear m I
            by_cases hpo : p.op = 0
            · rw [decide_eq_false (fun hn => hn hpo)] at HPD
              go_wp2_with fail
              with_reducible refine HPD.out.mono ?_
              rintro e w6 ⟨rfl, hw⟩
              subst hw
              go_wp2
              go_roundw
              case rel => exact ⟨q + 1, v, k, ups, dn, calls, ops, si, sw, by omega, by go_num, HM.out, HI.out.mono (by omega)⟩
              case measure => simp [intOf]; omega
            · rw [decide_eq_true hpo] at HPD
              have hrk := rankV_pos (v := v) hpo
              rw [hp] at hrk
              have hn3 : ¬ (3 : Int) ≤ (nn : Int) := by omega
              have hn0 : (0 : Int) ≤ (nn : Int) := by omega
              have HP := Lib.hid (pstep_any HM.out HI.out (by omega) htop4 q (by omega))
              go_wp2_with fail
              with_reducible refine HPD.out.mono ?_
              rintro e w6 ⟨rfl, hw⟩
              subst hw
              go_wp2_with fail
              with_reducible refine HP.out.mono ?_
              rintro e w7 ⟨rfl, v', k', ups', dn', calls', ops', si', sw', m7, I7, hr7⟩
              have M7 := Lib.hid m7
              have I7 := Lib.hid I7
              clear m7
              go_wp2
              go_roundw
              case rel => exact ⟨nn + 1, v', k', ups', dn', calls', ops', si', sw', by omega, by go_num, M7.out, I7.out⟩
              case measure => simp [intOf]; omega
        · obtain rfl : q = 5 := by omega
          have jq1 : ¬ ((5 : Nat) : Int) < 5 := by omega
          have hvud := I2.out.vud
          have hui := I2.out.ui
          have hvt := I2.out.vt
          have HVq := Lib.hid (fun t => value_q _ c b bw top v k calls M2.out.cnt (by omega) t)
          have e0 := M2.out.pl.c2
          have e3 := M2.out.pl.c3
          have lp := M2.out.pl.lt
          have hsub : (ups : Int) - (dn : Int) = (v : Int) := by omega
          go_wp2_with fail
          go_quiet (first | (go_at_call 34; with_reducible exact Calls.quiet_of_same (HVq.out _)))
          go_wp2
          go_ret
          exact ⟨rfl, (M2.out.drewN nq).bel⟩
end Go.Proofs.Ytddadlomkodgcaa
