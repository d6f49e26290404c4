/- The law ShardFree: its mathematics and its walk. -/
import Derived.Test.YtpjgpiiibgogeaaVsM
import Derived.Outline
namespace Go.Proofs.Ytpjgpiiibgogeaa
open Go.RowKit
set_option maxRecDepth 100000
set_option linter.unusedVariables false

/-- How many steps that don't return a call has ahead of it, while none returns. -/
def costN (v : Nat) : Nx → Nat
  | .none => 1
  | .read _ _ _ => 1
  | .write _ _ _ num _ _ => if v = num then 0 else 2
def potN (v : Nat) (nx : Nat → Nx) : Nat → Nat
  | 0 => 0
  | W + 1 => potN v nx W + costN v (nx W)
theorem costN_le (v : Nat) (x : Nx) : costN v x ≤ 2 := by
  cases x <;> simp [costN]
  split <;> omega
theorem potN_le (v : Nat) (nx : Nat → Nx) (W : Nat) : potN v nx W ≤ 2 * W := by
  induction W with
  | zero => simp [potN]
  | succ W ih => have := costN_le v (nx W); simp only [potN]; omega
theorem potN_off (v : Nat) (nx : Nat → Nx) (q W : Nat) (y : Nx) (h : W ≤ q) : potN v (updF nx q y) W = potN v nx W := by
  induction W with
  | zero => rfl
  | succ W ih => simp only [potN]; rw [ih (by omega), updF_other _ _ _ _ (by omega)]
theorem potN_upd (v : Nat) (nx : Nat → Nx) (q W : Nat) (y : Nx) (h : q < W) : potN v (updF nx q y) W + costN v (nx q) = potN v nx W + costN v y := by
  induction W with
  | zero => omega
  | succ W ih =>
    simp only [potN]
    by_cases e : q = W
    · subst e; rw [potN_off _ _ _ _ _ (Nat.le_refl _), updF_same]; omega
    · have := ih (by omega)
      rw [updF_other _ _ _ _ (by omega)]; omega
theorem step_cost (v : Nat) (l : List Ent) (x : Nx) (hp : isNx x = true) (hd : (stepX v l x).q.d = false) : (stepX v l x).v = v ∧ costN v (stepX v l x).y + 1 = costN v x := by
  cases x with
  | none => simp [isNx] at hp
  | read op ks z =>
    rcases hc : chgV op (ofV op ks z l).1 with _ | _
    · simp [stepX, rdRes, hc] at hd
    · simp [stepX, rdNx, hc, costN]
  | write op ks z num made r =>
    by_cases hv : v = num
    · simp [stepX, hv] at hd
    · have e : stepX v l (.write op ks z num made r) = ⟨⟨false, 0, 0⟩, v, l, .read op ks z⟩ := if_neg hv
      rw [e]
      simp [costN, hv]
theorem step_vle (v : Nat) (l : List Ent) (x : Nx) : (stepX v l x).v ≤ v + 1 := by
  cases x with
  | none => simp [stepX]
  | read => simp [stepX]
  | write op ks z num made r =>
    simp only [stepX]; split <;> simp

structure FrS (w wr : World) (s b bw W k v : Nat) (l : List Ent) (nx : Nat → Nx) (qn : Nat) : Prop where
  c : ShC w wr s b bw [] k v l nx
  pot : qn + potN v nx W ≤ 2 * W
theorem FrS.below {w wr w' : World} {s b bw W k v qn : Nat} {l : List Ent} {nx : Nat → Nx} (h : FrS w wr s b bw W k v l nx qn) (hb : Below wr.heap.size wr w') : FrS w w' s b bw W k v l nx qn := ⟨h.c.below hb, h.pot⟩
def FrInv (w : World) (s b bw W n : Nat) (qv iv : Value) (wr : World) : Prop :=
  ∃ i k v l nx qn, i ≤ n ∧ i ≤ 300 ∧ iv = .int .i64 ((i : Nat) : Int) ∧ qv = .int .i64 ((qn : Nat) : Int) ∧ k ≤ i + 1 ∧ FrS w wr s b bw W k v l nx qn
set_option maxHeartbeats 12800000 in
theorem shardFree_walk (wk : Int) (A : Option Addr) (n d : Nat) (l0 : List PkV) (w : World) (hwk0 : 0 ≤ wk) (hwk1 : wk ≤ 255) (h : ScrA w w.heap.size A n d l0) (hd : d ≤ 8796093021952) :
    Calls Try.prog 11 #[.int .u8 wk, .slice A n d] w (ValEnd w (.bool true)) := by
  have hle := h.arg.le
  have HAG := Lib.hid h
  obtain ⟨W, hW⟩ : ∃ W : Nat, (W : Int) = 1 + wk % 6 := ⟨(1 + wk % 6).toNat, by omega⟩
  have hW6 : W ≤ 6 := by omega
  have hW1 : 1 ≤ W := by omega
  have hWz : ¬ (W : Int) = 0 := by omega
  clear h
  go_enter Try.func11, Try.ntmps11
  go_wp2_with fail
  with_reducible refine (awake14_any _).mono ?_
  rintro e w1 ⟨rfl, hB⟩
  have HB1 := Lib.hid hB
  have HN := Lib.hid (newC w1)
  clear hB
  go_wp2_with fail
  rw [← hW]
  clear hW
  with_reducible refine HN.out.mono ?_
  rintro e w2 ⟨s, b, bw, rfl, c2⟩
  have hsz1 := HB1.out.size
  have c2' : ShC w w2 s b bw [] 1 1 [] (fun _ => .none) := ⟨c2.sh, Nat.le_trans hsz1 c2.bs, Nat.le_trans hsz1 c2.bb, Nat.le_trans hsz1 c2.bbw, HB1.out.trans (c2.bel.mono hsz1)⟩
  have S0 : Hid (FrS w w2 s b bw W 1 1 [] (fun _ => .none) 0) := Lib.hid ⟨c2', by have := potN_le 1 (fun _ => .none) W; omega⟩
  clear c2 c2' HN
  go_wp2
  go_loopw [7, 22] (fun qv iv wr => FrInv w s b bw W n qv iv wr) (fun _ iv _ => n - (intOf iv).toNat)
  case atStart => exact ⟨0, 1, 1, [], _, 0, Nat.zero_le _, by omega, rfl, rfl, by omega, S0.out⟩
  case round =>
    obtain ⟨i, k, v, l, nx, qn, hi, hi3, rfl, rfl, hk, st⟩ := hrel
    clear S0
    have hql : qn ≤ 2 * W := by have := st.pot; omega
    rcases Nat.lt_or_ge i n with hin | hin
    · obtain ⟨bb, off, eA, hbb, q0, q1, q2, q3, harg, hok⟩ := (HAG.out.below st.c.bel).at_ hin
      subst eA
      have hbs := st.c.bel.size
      generalize l0.getD i noPk = p at q0 q1 q2 q3 harg hok
      obtain ⟨who, op, pA, pn, pc, pz, px⟩ := p
      simp only at q0 q1 q2 q3 harg
      have j0 : (0 : Int) ≤ (i : Int) := by omega
      have j1 : (i : Int) < (n : Int) := by omega
      have hbb2 : bb < wr.heap.size := by omega
      have hple := harg.le
      have hpc := hok.kc
      have hw0 := hok.w0
      have hw1 := hok.w1
      have ho255 := hok.o1
      have hx0 := hok.x0
      have hx1 := hok.x1
      simp only at hpc hw0 hw1 ho255 hx0 hx1
      have ST := Lib.hid st
      clear st hok
      rcases Nat.lt_or_ge i 300 with h3 | h3
      · have h3' : ¬ (300 : Int) ≤ (i : Int) := by omega
        obtain ⟨q, hq⟩ : ∃ q : Nat, (q : Int) = who % 4 := ⟨(who % 4).toNat, by omega⟩
        obtain ⟨km, hkm⟩ : ∃ km : Nat, km = min pn 3 := ⟨_, rfl⟩
        have hkm3 : km ≤ 3 := by omega
        have hkmn : km ≤ pn := by omega
        obtain ⟨fo, hfo⟩ : ∃ fo : Nat, fo = fitOp op := ⟨_, rfl⟩
        have hfo4 : fo ≤ 4 := by rw [hfo]; exact fitOp_le op
        have HF := Lib.hid (fit_any (wr.alloc (.cells #[.int .i64 who, .int .u8 (op : Int), .slice pA pn pc, .int .i64 px] 72)) who op pA pn pc px ho255 hx1 hple (by omega) km hkm q hq fo hfo)
        have HKEY := Lib.hid (harg.take hkmn)
        clear hq hkm hfo harg
        have kP0 := Lib.hid (BlkL.new wr [.int .i64 who, .int .u8 (op : Int), .slice pA pn pc, .int .i64 px] 72)
        have HBP : Hid (Below wr.heap.size wr (wr.alloc (.cells #[.int .i64 who, .int .u8 (op : Int), .slice pA pn pc, .int .i64 px] 72))) := Lib.hid ((Below.refl _ _).alloc (Nat.le_refl _) _)
        go_wp2_with fail
        with_reducible refine HF.out.mono ?_
        rintro e w3 ⟨rfl, hb3⟩
        have kP := kP0.out.below hb3
        have HB3 := Lib.hid (HBP.out.trans (hb3.mono HBP.out.size))
        have KP := Lib.hid kP
        have c0 := kP.cell 0 _ rfl
        have c1 := kP.cell 1 _ rfl
        have c2 := kP.cell 2 _ rfl
        have c3 := kP.cell 3 _ rfl
        have f0 := kP.froz 0 (by simp)
        have f1 := kP.froz 1 (by simp)
        have f2 := kP.froz 2 (by simp)
        have f3 := kP.froz 3 (by simp)
        have lP := kP.lt
        clear kP hb3 kP0 HF HBP
        have hcv := clampV_bd px
        generalize clampV px = cx at *
        obtain ⟨wo, hwo⟩ : ∃ wo : Nat, wo = cx.toNat % W := ⟨_, rfl⟩
        have hwoW : wo < W := by rw [hwo]; exact Nat.mod_lt _ (by omega)
        have hwe : cx % (W : Int) = (wo : Int) := by rw [hwo, Int.natCast_emod, Int.toNat_of_nonneg hcv.1]
        have hwe2 : cx.tmod (W : Int) = (wo : Int) := by rw [Int.tmod_eq_emod_of_nonneg (by omega)]; exact hwe
        have hkQ : BlkL ((((w3.setCell ⟨wr.heap.size, 0, none⟩ (.int .i64 (q : Int))).setCell ⟨wr.heap.size, 1, none⟩ (.int .u8 (fo : Int))).setCell ⟨wr.heap.size, 2, none⟩ (.slice pA km pc)).setCell ⟨wr.heap.size, 3, none⟩ (.int .i64 cx)) wr.heap.size _ := KP.out.put4 (.int .i64 (q : Int)) (.int .u8 (fo : Int)) (.slice pA km pc) (.int .i64 cx)
        have hbQ := below_put4 HB3.out (b := wr.heap.size) (Nat.le_refl _) (.int .i64 (q : Int)) (.int .u8 (fo : Int)) (.slice pA km pc) (.int .i64 cx)
        obtain ⟨w4, hw4⟩ : ∃ w4, w4 = ((((w3.setCell ⟨wr.heap.size, 0, none⟩ (.int .i64 (q : Int))).setCell ⟨wr.heap.size, 1, none⟩ (.int .u8 (fo : Int))).setCell ⟨wr.heap.size, 2, none⟩ (.slice pA km pc)).setCell ⟨wr.heap.size, 3, none⟩ (.int .i64 cx)) := ⟨_, rfl⟩
        rw [← hw4] at hkQ hbQ
        have st4 := ST.out.below hbQ
        have HPD := Lib.hid (pendC w w4 s b bw [] k v l nx st4.c wo (by omega) _ rfl)
        have HA4 := Lib.hid ((HKEY.out.below (hbQ.mono ST.out.c.bel.size)).more (B' := w4.heap.size) st4.c.bel.size)
        have ST4 := Lib.hid st4
        have KQ := Lib.hid hkQ
        have HW4 := Lib.hid hw4
        have hkk : k < 9223372036854775807 := by omega
        clear hwo st4 hkQ hbQ hw4 ST HB3 KP HKEY
        rw [HW4.out] at HPD
        rcases hp : isNx (nx wo) with _ | _
        · rw [hp] at HPD
          have hnn : nx wo = .none := by
            cases hx : nx wo <;> simp [isNx, hx] at hp ⊢
          obtain ⟨op2, hop2⟩ : ∃ op2 : Nat, (op2 : Int) = 1 + (fo : Int) % 4 := ⟨1 + fo % 4, by omega⟩
          have ho1 : 1 ≤ op2 := by omega
          have ho4 : op2 ≤ 4 := by omega
          have HSS := Lib.hid (startC w w4 s b bw [] k v l nx ST4.out.c wo (by omega) hnn op2 ho1 ho4 pA km pc _ HA4.out (by omega) cx (fun _ => hcv))
          rw [HW4.out] at HSS
          go_wp2_with fail
          with_reducible refine HPD.out.mono ?_
          rintro e w5 ⟨rfl, hw⟩
          subst hw
          go_wp2_with fail
          try rw [← hop2]
          with_reducible refine HSS.out.mono ?_
          rintro e w5 ⟨rfl, c5, hf5⟩
          have hpot5 : qn + potN v (updF nx wo (.read op2 (List.take km pz) cx)) W ≤ 2 * W := by
            have h1 := potN_upd v nx wo W (.read op2 (List.take km pz) cx) hwoW
            have h2 := ST4.out.pot
            rw [hnn] at h1
            simp only [costN] at h1
            omega
          have hp5 : isNx (updF nx wo (.read op2 (List.take km pz) cx) wo) = true := by rw [updF_same]; rfl
          generalize updF nx wo (.read op2 (List.take km pz) cx) = nx5 at c5 hpot5 hp5
          clear HSS HPD
          have hsp := stepC w w5 s b bw [] k v l nx5 c5 hkk wo (by omega) _ rfl hp5 _ rfl
          have hsc := step_cost v l (nx5 wo) hp5
          have hsv := step_vle v l (nx5 wo)
          generalize hx : nx5 wo = x at hsp hsc hsv
          generalize stepX v l x = tt at hsp hsc hsv
          obtain ⟨⟨td, tE, tN⟩, tv, tl, ty⟩ := tt
          simp only at hsp hsc hsv
          have HSP := Lib.hid hsp
          have hvk := c5.wfv.2.1
          clear hsp
          go_wp2_with fail
          with_reducible refine HSP.out.mono ?_
          rintro e w6 ⟨rfl, c6, hf6⟩
          have r0 := (BlkL.new w6 [.bool td, .int .i64 tE, .int .i64 tN] 79).cell 0 _ rfl
          have c7 := c6.alloc (.cells #[.bool td, .int .i64 tE, .int .i64 tN] 79)
          rcases td with _ | _
          · obtain ⟨e1, e2⟩ := hsc rfl
            subst e1
            have hpot7 : (qn + 1) + potN tv (updF nx5 wo ty) W ≤ 2 * W := by
              have h1 := potN_upd tv nx5 wo W ty hwoW
              rw [hx] at h1
              omega
            have ST7 : Hid (FrS w _ s b bw W (k + 1) tv tl (updF nx5 wo ty) (qn + 1)) := Lib.hid ⟨c7, hpot7⟩
            have hql2 : ¬ 2 * (W : Int) < (qn : Int) + 1 := by omega
            clear c6 c7 hpot7 hf6 HSP e2 hsv
            go_wp2
            go_roundw
            case rel => exact ⟨i + 1, k + 1, tv, tl, _, qn + 1, by omega, by omega, by go_num, by first | rfl | (congr 1; omega), by omega, ST7.out⟩
            case measure => simp [intOf]; omega
          · have hpot7 := potN_le tv (updF nx5 wo ty) W
            have ST7 : Hid (FrS w _ s b bw W (k + 1) tv tl (updF nx5 wo ty) 0) := Lib.hid ⟨c7, by omega⟩
            have hql2 : ¬ 2 * (W : Int) < 0 := by omega
            clear c6 c7 hpot7 hf6 HSP hsc hsv
            go_wp2
            go_roundw
            case rel => exact ⟨i + 1, k + 1, tv, tl, _, 0, by omega, by omega, by go_num, by first | rfl | (congr 1; omega), by omega, ST7.out⟩
            case measure => simp [intOf]; omega
        · rw [hp] at HPD
          have c5 := ST4.out.c
          have hpot5 := ST4.out.pot
          rw [HW4.out] at c5
          go_wp2_with fail
          with_reducible refine HPD.out.mono ?_
          rintro e w5 ⟨rfl, hw⟩
          subst hw
          have hp5 := hp
          clear HPD
          have hsp := stepC w _ s b bw [] k v l nx c5 hkk wo (by omega) _ rfl hp5 _ rfl
          have hsc := step_cost v l (nx wo) hp5
          have hsv := step_vle v l (nx wo)
          generalize hx : nx wo = x at hsp hsc hsv
          generalize stepX v l x = tt at hsp hsc hsv
          obtain ⟨⟨td, tE, tN⟩, tv, tl, ty⟩ := tt
          simp only at hsp hsc hsv
          have HSP := Lib.hid hsp
          have hvk := c5.wfv.2.1
          clear hsp
          go_wp2_with fail
          with_reducible refine HSP.out.mono ?_
          rintro e w6 ⟨rfl, c6, hf6⟩
          have r0 := (BlkL.new w6 [.bool td, .int .i64 tE, .int .i64 tN] 79).cell 0 _ rfl
          have c7 := c6.alloc (.cells #[.bool td, .int .i64 tE, .int .i64 tN] 79)
          rcases td with _ | _
          · obtain ⟨e1, e2⟩ := hsc rfl
            subst e1
            have hpot7 : (qn + 1) + potN tv (updF nx wo ty) W ≤ 2 * W := by
              have h1 := potN_upd tv nx wo W ty hwoW
              rw [hx] at h1
              omega
            have ST7 : Hid (FrS w _ s b bw W (k + 1) tv tl (updF nx wo ty) (qn + 1)) := Lib.hid ⟨c7, hpot7⟩
            have hql2 : ¬ 2 * (W : Int) < (qn : Int) + 1 := by omega
            clear c6 c7 hpot7 hf6 HSP e2 hsv
            go_wp2
            go_roundw
            case rel => exact ⟨i + 1, k + 1, tv, tl, _, qn + 1, by omega, by omega, by go_num, by first | rfl | (congr 1; omega), by omega, ST7.out⟩
            case measure => simp [intOf]; omega
          · have hpot7 := potN_le tv (updF nx wo ty) W
            have ST7 : Hid (FrS w _ s b bw W (k + 1) tv tl (updF nx wo ty) 0) := Lib.hid ⟨c7, by omega⟩
            have hql2 : ¬ 2 * (W : Int) < 0 := by omega
            clear c6 c7 hpot7 hf6 HSP hsc hsv
            go_wp2
            go_roundw
            case rel => exact ⟨i + 1, k + 1, tv, tl, _, 0, by omega, by omega, by go_num, by first | rfl | (congr 1; omega), by omega, ST7.out⟩
            case measure => simp [intOf]; omega
      · have h3' : (300 : Int) ≤ (i : Int) := by omega
        have S1 : Hid (FrS w (wr.alloc (.cells #[.int .i64 who, .int .u8 (op : Int), .slice pA pn pc, .int .i64 px] 72)) s b bw W k v l nx qn) := Lib.hid (ST.out.below ((Below.refl _ _).alloc (Nat.le_refl _) _))
        go_wp2
        go_ret
        exact ⟨rfl, S1.out.c.bel⟩
    · obtain rfl : i = n := by omega
      have j1 : ¬ (i : Int) < (i : Int) := by omega
      have S1 := Lib.hid st
      clear st
      go_wp2
      go_ret
      exact ⟨rfl, S1.out.c.bel⟩
end Go.Proofs.Ytpjgpiiibgogeaa
