/- The law ConnLedger: its walk. -/
import Derived.Test.YtndgladfcogiiaaCnLdA
import Derived.Laws.Cover3
import Derived.BigQuiet
import Derived.Deep.CutBlock
import Derived.Deep.DeepCutAuto
namespace Go.Proofs.Ytndgladfcogiiaa
open Go.RowKit
set_option maxRecDepth 100000
set_option linter.unusedVariables false

theorem Arg.setOther {w : World} {B n c cb : Nat} {A : Option Addr} {zs : List Nat} (h : Arg w B A n c zs) (S : Option Addr) (p q : Nat) (hc : w.cell? ⟨cb, 5, none⟩ = some (.slice S p q)) (x : Value) : Arg (w.setCell ⟨cb, 5, none⟩ x) B A n c zs := by
  refine ⟨h.len, h.le, h.cap, h.byte, h.none_, fun hn => ?_⟩
  obtain ⟨b, off, e, hB, hk⟩ := h.at_ hn
  refine ⟨b, off, e, hB, fun k hkn => ?_⟩
  have := hk k hkn
  rw [World.cell?_setCell_other _ _ _ _ (fun e => by rw [← e, hc] at this; cases this)]
  exact this
theorem lg_take (w : World) (B cb : Nat) (D : CnD) (h : CnM w B cb D) (n : Nat) (hn : D.us.length = n) : Calls Try.prog 64 #[.pointer (some ⟨cb, 0, none⟩)] w fun e w' => (∃ A c D', e = .returned (.slice A n c) ∧ CnM w' B cb D' ∧ Stp w w' cb D D' ∧ D'.us = [] ∧ D'.ob = D.ob ∧ D'.rows = D.rows ∧ D'.toks = D.toks ∧ Kept D D') ∧ w' = w.setCell ⟨cb, 5, none⟩ (.slice none 0 0) := by
  subst hn
  have c5 := h.blk.cell 5 _ rfl
  have f5 := h.blk.froz 5 (by simp [CnD.cells])
  have lt := h.blk.lt
  go_enter Try.func64, Try.ntmps64
  go_wp2
  have fo : Off [cb] w (w.setCell ⟨cb, 5, none⟩ (.slice none 0 0)) := (Off.refl _ _).setCell (p := ⟨cb, 5, none⟩) (by simp) _
  have hb := h.blk.set 5 (.slice none 0 0) (by simp [CnD.cells])
  have hr := h.upd (D' := { D with UA := none, uc := 0, us := [] }) fo hb ⟨.inr ⟨rfl, rfl, rfl, rfl, rfl, rfl⟩, .inr ⟨rfl, rfl, rfl⟩, .inr rfl, .inl ⟨rfl, rfl, rfl⟩, rfl, rfl, rfl⟩
  go_ret
  exact ⟨⟨_, _, _, rfl, hr.1, hr.2, rfl, rfl, rfl, rfl, ⟨rfl, rfl, rfl, rfl, rfl⟩⟩, rfl⟩
theorem lg_hang (w : World) (B cb : Nat) (D : CnD) (h : CnM w B cb D) (ts : List TkV) (ht : D.toks.map TkR.v = ts) (k : Nat) (hk : ts.length = k) (hk2 : k ≤ 1000) (hl : ∀ t ∈ ts, t.ks.length ≤ 1000) : Calls Try.prog 65 #[.pointer (some ⟨cb, 0, none⟩)] w fun e w' =>
    ∃ A c L D' Bt, e = .returned (.slice A k c) ∧ w.heap.size ≤ Bt ∧ OwnS w' Bt 3 A k c (FTk L) ∧ (∀ t ∈ L, Arg w' w'.heap.size t.A t.ks.length t.c t.ks) ∧ L.map TkR.v = ts ∧ CnM w' B cb D' ∧ Stp w w' cb D D' ∧ D'.cl = true ∧ D'.us = D.us ∧ D'.toks = D.toks := by
  have hn : D.toks.length = k := by rw [← hk, ← ht]; simp
  refine (cn_hangup w B cb D h (by omega) (fun t h1 => by have := hl t.v (by rw [← ht]; exact List.mem_map_of_mem h1); simp at this; omega)).mono ?_
  rintro e w' ⟨A, c, L, rfl, ⟨Bt, hBt, ho⟩, hv, hkk, hc, hs⟩
  have hL : L.length = k := by have := congrArg List.length hv; simp at this; omega
  rw [hL] at ho
  exact ⟨A, c, L, _, Bt, by rw [hL], hBt, ho, fun t ht => (hkk t ht).arg, hv.trans ht, hc, hs, rfl, rfl, rfl⟩
theorem lg_led (w : World) (B cb : Nat) (D : CnD) (h : CnM w B cb D) (ts : List TkV) (ht : D.toks.map TkR.v = ts) (k : Nat) (hk : ts.length = k) (hk2 : k ≤ 1000) (hl : ∀ t ∈ ts, t.ks.length ≤ 1000) : Calls Try.prog 56 #[.pointer (some ⟨cb, 0, none⟩)] w fun e w' =>
    ∃ A c L, e = .returned (.slice A k c) ∧ TksA w' A k c L ∧ L.map TkR.v = ts ∧ Below w.heap.size w w' := by
  have hn : D.toks.length = k := by rw [← hk, ← ht]; simp
  refine (cn_ledger w B cb D h (by omega) (fun t h1 => by have := hl t.v (by rw [← ht]; exact List.mem_map_of_mem h1); simp at this; omega)).mono ?_
  rintro e w' ⟨A, c, L, rfl, ho, hv, hkk, hb⟩
  have hL : L.length = k := by have := congrArg List.length hv; simp at this; omega
  rw [hL] at ho
  exact ⟨A, c, L, by rw [hL], ⟨⟨_, ho⟩, fun t ht => (hkk t ht).arg⟩, hv.trans ht, hb⟩
theorem lg_open (w : World) (B cb : Nat) (D : CnD) (h : CnM w B cb D) (b : Bool) (hb : D.cl = b) : Calls Try.prog 58 #[.pointer (some ⟨cb, 0, none⟩)] w fun e w' => e = .returned (.bool (!b)) ∧ w = w' := by
  subst hb; exact cn_open w B cb D h
/-- What stands behind the loop. -/
def LgF (w : World) (B cb rb : Nat) (hv : Value) (wr : World) : Prop :=
  ∃ (m c' : Nat) (A' : Option Addr) (D : CnD) (hs : List Int), hv = .slice A' m c' ∧ LgS wr B cb rb D A' m c' hs (hs.map lgT) ∧ D.rows = [] ∧ D.ob = none ∧ m ≤ 80 ∧ (∀ s ∈ hs, 2 ≤ s ∧ s ≤ 200) ∧ Below w.heap.size w wr
/-- The loop over the script. -/
def LgI (w : World) (B cb rb : Nat) (A : Option Addr) (n c : Nat) (zs : List Nat) (hv kv iv : Value) (wr : World) : Prop :=
  ∃ (i k m c' : Nat) (A' : Option Addr) (D : CnD) (hs : List Int), i ≤ n ∧ i ≤ 80 ∧ iv = .int .i64 (i : Int) ∧ kv = .int .i64 (k : Int) ∧ hv = .slice A' m c' ∧ k ≤ i ∧ LgS wr B cb rb D A' m c' hs (hs.map lgT) ∧ D.rows = [] ∧ D.ob = none ∧ D.us.length ≤ 38 * i ∧ m ≤ i ∧ (∀ s ∈ hs, 2 ≤ s ∧ s ≤ 200) ∧ Below w.heap.size w wr ∧ Arg wr w.heap.size A n c zs
set_option maxHeartbeats 3200000 in
theorem connLedger_walk (A : Option Addr) (n c : Nat) (zs : List Nat) (w : World) (h : Arg w w.heap.size A n c zs) :
    Calls Try.prog 17 #[.slice A n c] w (ValEnd w (.bool true)) := by
  have HA := Lib.hid h
  have hcap := h.cap
  have hle := h.le
  unfold maxLen at hcap
  clear h
  go_enter Try.func17, Try.ntmps17
  go_wp2_with fail
  with_reducible refine (awake22_any _).mono ?_
  rintro e w0 ⟨rfl, hb0⟩
  have HB0 := Lib.hid hb0
  have HA0 := Lib.hid (HA.out.below hb0)
  clear hb0 HA
  go_wp2_with fail
  with_reducible refine (cn_new w0).mono ?_
  rintro e w1 ⟨rfl, hc, hb⟩
  obtain ⟨rb, hrb⟩ : ∃ rb, rb = w0.heap.size := ⟨_, rfl⟩
  obtain ⟨cb, hcb⟩ : ∃ cb, cb = w0.heap.size + 1 := ⟨_, rfl⟩
  rw [← hcb] at hc
  rw [← hcb]
  have hc1 : CnM w1 w0.heap.size cb (CnD.new rb) := by rw [hrb]; exact hc
  have HZ0 := Lib.hid HB0.out.size
  have HB0S : Hid (w.heap.size ≤ w0.heap.size) := Lib.hid HB0.out.size
  have HST : Hid (LgI w w0.heap.size cb rb A n c zs (.slice none 0 0) (.int .i64 0) (.int .i64 0) w1) := Lib.hid ⟨0, 0, 0, 0, none, CnD.new rb, [], Nat.zero_le _, by omega, rfl, rfl, rfl, Nat.le_refl _, ⟨hc1, hb.size, OwnV.nil _ _, by simp [bkV], by simp [bkV], rfl, rfl, rfl, rfl, rfl, rfl⟩, rfl, rfl, by show 0 ≤ _; omega, Nat.le_refl _, by simp, HB0.out.trans (hb.mono HZ0.out), HA0.out.below (hb.mono HZ0.out)⟩
  clear hc hc1 hb hrb hcb HA0
  go_upto_block 0 with fail
  go_cut [4] (fun hv wx => LgF w w0.heap.size cb rb hv wx)
  case first =>
    go_wp2_with fail
    go_loopw [4, 5, 25] (fun hv kv iv wr => LgI w w0.heap.size cb rb A n c zs hv kv iv wr) (fun hv kv iv _ => n - (intOf iv).toNat)
    case atStart => exact HST.out
    case round =>
      obtain ⟨i, k, m, c', A', D, hs, hi, hi80, rfl, rfl, rfl, hk, hg, hrow, hob, hus, hm, hss, hbw, harg⟩ := hrel
      have HG := Lib.hid hg
      have HP := Lib.hid (And.intro hrow (And.intro hob (And.intro hus (And.intro hm hss))))
      have HBW := Lib.hid hbw
      have HAR := Lib.hid harg
      have hsz := hbw.size
      clear hg hrow hob hus hss hbw HST
      rcases Nat.lt_or_ge i n with h1 | h1
      · rcases Nat.lt_or_ge i 80 with h80 | h80
        · have d80 : decide ((80 : Int) ≤ (i : Int)) = false := decide_eq_false (by omega)
          obtain ⟨b, off, rfl, hbB, hcell⟩ := harg.at_ (by omega)
          have e0 := hcell i h1
          have hz256 : zs.getD i 0 < 256 := harg.byte _ (by rw [List.getD_eq_getElem?_getD, List.getElem?_eq_getElem (by rw [harg.len]; exact h1)]; exact List.getElem_mem _)
          generalize zs.getD i 0 = s at e0 hz256
          have i0 : (0 : Int) ≤ (i : Int) := by omega
          have i1 : (i : Int) < (n : Int) := by omega
          have s0 : (0 : Int) ≤ (s : Int) := by omega
          have s1 : (s : Int) < 256 := by omega
          obtain ⟨b2, hb2⟩ : ∃ b2 : Nat, s % 2 = b2 := ⟨_, rfl⟩
          have hb2' : b2 < 2 := by omega
          have t2 : Int.tmod (s : Int) 2 = (b2 : Int) := by rw [Int.tmod_eq_emod_of_nonneg (by omega)]; omega
          have q0 : (0 : Int) ≤ (b2 : Int) := by omega
          have q1 : (b2 : Int) < 2 := by omega
          clear hcell harg
          obtain ⟨b8, hb8⟩ : ∃ b8 : Nat, s % 8 = b8 := ⟨_, rfl⟩
          have t8 : Int.tmod (s : Int) 8 = (b8 : Int) := by rw [Int.tmod_eq_emod_of_nonneg (by omega)]; omega
          rcases Nat.lt_or_ge b8 4 with h8 | h8
          · have d8 : decide ((b8 : Int) < 4) = true := decide_eq_true (by omega)
            clear hb8
            by_cases h16 : s % 16 = 3
            · have t16 : Int.tmod (s : Int) 16 = 3 := by rw [Int.tmod_eq_emod_of_nonneg (by omega)]; omega
              go_upto_region 22 with (fail)
              have HX : Hid (rqC (2 : Nat) 1 0 1 = 0 ∧ usedV (⟨2, 1, 0, [97 + b2]⟩ : ClV) = (⟨2, 1, 0, [97 + b2]⟩ : ClV)) := Lib.hid ⟨by decide, rfl⟩
              have HRO : Hid (RpV.ok ⟨9, false, 0, 0, 0, 0⟩ = true) := Lib.hid (by first | decide | (simp [RpV.ok, RpV.eB, tkB]; omega))
              have hb1 := (Below.refl wr.heap.size wr).alloc (Nat.le_refl _) (.cells #[.int .u8 (97 + (b2 : Int))] 5)
              have hbz : Below wr.heap.size wr (((wr.alloc (.cells #[.int .u8 (97 + (b2 : Int))] 5)).alloc (.cells #[.int .u8 2, .int .i64 1, .slice (some ⟨wr.heap.size, 0, none⟩) 1 1, .int .i64 0] 71)).alloc (.cells #[.int .i64 9, .bool false, .int .i64 0, .int .i64 0, .int .i64 0, .int .i64 0] 82)) := ((hb1.alloc (by simp) _).alloc (by simp; omega) _)
              have HK : Hid (LgK w (((wr.alloc (.cells #[.int .u8 (97 + (b2 : Int))] 5)).alloc (.cells #[.int .u8 2, .int .i64 1, .slice (some ⟨wr.heap.size, 0, none⟩) 1 1, .int .i64 0] 71)).alloc (.cells #[.int .i64 9, .bool false, .int .i64 0, .int .i64 0, .int .i64 0, .int .i64 0] 82)) (some ⟨b, off, none⟩) n c zs w0.heap.size cb rb D A' m c' hs (hs.map lgT) (wr.heap.size + 1) (wr.heap.size + 1 + 1) ⟨2, 1, 0, [97 + b2]⟩ (some ⟨wr.heap.size, 0, none⟩) ⟨9, false, 0, 0, 0, 0⟩) := Lib.hid (by
                have hs' := HG.out.below hbz
                refine ⟨hs', HBW.out.trans (hbz.mono HBW.out.size), HB0S.out, HAR.out.below (hbz.mono HBW.out.size), ?_, ?_, fun e => ?_, fun e => ?_, fun e => ?_, fun e => ?_⟩
                · have := (BlkL.new (wr.alloc (.cells #[.int .u8 (97 + (b2 : Int))] 5)) [.int .u8 2, .int .i64 1, .slice (some ⟨wr.heap.size, 0, none⟩) 1 1, .int .i64 0] 71).alloc (.cells #[.int .i64 9, .bool false, .int .i64 0, .int .i64 0, .int .i64 0, .int .i64 0] 82)
                  simpa using this
                · have := BlkL.new ((wr.alloc (.cells #[.int .u8 (97 + (b2 : Int))] 5)).alloc (.cells #[.int .u8 2, .int .i64 1, .slice (some ⟨wr.heap.size, 0, none⟩) 1 1, .int .i64 0] 71)) [.int .i64 9, .bool false, .int .i64 0, .int .i64 0, .int .i64 0, .int .i64 0] 82
                  simpa using this
                · have := (HG.out.cn.lt _ e).2; omega
                · have := (HG.out.cn.lt _ e).2; omega
                · have := (HG.out.own.lt _ e).2; omega
                · have := (HG.out.own.lt _ e).2; omega)
              have HAK : Hid (Arg (((wr.alloc (.cells #[.int .u8 (97 + (b2 : Int))] 5)).alloc (.cells #[.int .u8 2, .int .i64 1, .slice (some ⟨wr.heap.size, 0, none⟩) 1 1, .int .i64 0] 71)).alloc (.cells #[.int .i64 9, .bool false, .int .i64 0, .int .i64 0, .int .i64 0, .int .i64 0] 82)) (((wr.alloc (.cells #[.int .u8 (97 + (b2 : Int))] 5)).alloc (.cells #[.int .u8 2, .int .i64 1, .slice (some ⟨wr.heap.size, 0, none⟩) 1 1, .int .i64 0] 71)).alloc (.cells #[.int .i64 9, .bool false, .int .i64 0, .int .i64 0, .int .i64 0, .int .i64 0] 82)).heap.size (some ⟨wr.heap.size, 0, none⟩) 1 1 [97 + b2]) := Lib.hid (by
                have l1 : Arg (wr.alloc (.cells #[.int .u8 (97 + (b2 : Int))] 5)) (wr.heap.size + 1) (some ⟨wr.heap.size, 0, none⟩) 1 1 [97 + b2] := by
                  have := lit1 wr (97 + b2) (0, 0) (by omega)
                  simpa using this
                have b1 := (Below.refl (wr.heap.size + 1) (wr.alloc (.cells #[.int .u8 (97 + (b2 : Int))] 5))).alloc (by simp) (.cells #[.int .u8 2, .int .i64 1, .slice (some ⟨wr.heap.size, 0, none⟩) 1 1, .int .i64 0] 71)
                exact ((l1.below b1).below ((Below.refl _ _).alloc (by simp) _)).more (by simp))
              clear hb1 hbz
              generalize (((wr.alloc (.cells #[.int .u8 (97 + (b2 : Int))] 5)).alloc (.cells #[.int .u8 2, .int .i64 1, .slice (some ⟨wr.heap.size, 0, none⟩) 1 1, .int .i64 0] 71)).alloc (.cells #[.int .i64 9, .bool false, .int .i64 0, .int .i64 0, .int .i64 0, .int .i64 0] 82)) = wz at HK HAK ⊢
              obtain ⟨fl, hfl⟩ : ∃ fl, (rqF ⟨2, 1, 0, [97 + b2]⟩).length = fl := ⟨_, rfl⟩
              have HRQ : Hid (Calls Try.prog 59 #[.agg #[.int .u8 2, .int .i64 1, .slice (some ⟨wr.heap.size, 0, none⟩) 1 1, .int .i64 0]] wz fun e w' => ∃ XA xc, e = .returned (.slice XA fl xc) ∧ OwnV w' wz.heap.size XA fl xc ((rqF ⟨2, 1, 0, [97 + b2]⟩).map V8) ∧ (∀ d ∈ rqF ⟨2, 1, 0, [97 + b2]⟩, d < 256) ∧ Below wz.heap.size wz w') := Lib.hid (by
                refine (req_any wz wz.heap.size ⟨2, 1, 0, [97 + b2]⟩ (some ⟨wr.heap.size, 0, none⟩) 1 1 HAK.out (Nat.le_refl _)).mono ?_
                rintro e w' ⟨XA, xc, g1, g2, g3, _, g5⟩
                rw [hfl] at g1 g2
                exact ⟨XA, xc, g1, g2, g3, g5⟩)
              have HFL := Lib.hid hfl
              clear hfl
              have k9 := HK.out.k9
              have a0 := k9.cell 0 _ rfl
              have a1 := k9.cell 1 _ rfl
              have a2 := k9.cell 2 _ rfl
              have a3 := k9.cell 3 _ rfl
              have al := k9.lt
              clear k9
              go_wp2_with fail
              with_reducible refine (HRQ.out).mono ?_
              rintro e w2 ⟨XA, xc, rfl, ho, hby, hb2⟩
              have HK2 := Lib.hid (HK.out.below hb2)
              have HFD := Lib.hid (HK2.out.feed HP.out.1 HP.out.2.1 (by have := HX.out; exact this.1) HX.out.2 XA fl xc (ho.arg' hby))
              clear ho hby hb2 HRQ HK HAK a0 a1 a2 a3 al
              go_wp2_with fail
              with_reducible refine (HFD.out).mono ?_
              rintro e w3 ⟨D3, rfl, hk3, hr3, ho3, hu3⟩
              have HK3 := Lib.hid hk3
              have HP3 := Lib.hid (And.intro hr3 (And.intro ho3 hu3))
              have HNX := Lib.hid (HK3.out.next HP3.out.1 HP3.out.2.1 1 rfl (by omega))
              clear hk3 hr3 ho3 hu3 HFD HK2
              go_wp2_with fail
              with_reducible refine (HNX.out).mono ?_
              rintro e w4 ⟨KB, kc, D4, q, rfl, hk4, ho4, hq4, hr4, hu4⟩
              have bA := (Below.refl w4.heap.size w4).alloc (Nat.le_refl _) (.cells #[.int .u8 2, .int .i64 1, .slice KB 1 kc, .int .i64 0] 71)
              have HK4 : Hid (LgK w (w4.alloc (.cells #[.int .u8 2, .int .i64 1, .slice KB 1 kc, .int .i64 0] 71)) (some ⟨b, off, none⟩) n c zs w0.heap.size cb rb D4 A' m c' hs (hs.map lgT) (wr.heap.size + 1) (wr.heap.size + 1 + 1) ⟨2, 1, 0, [97 + b2]⟩ (some ⟨wr.heap.size, 0, none⟩) ⟨9, false, 0, 0, 0, 0⟩) := Lib.hid (hk4.below bA)
              have HP4 := Lib.hid (And.intro ho4 (And.intro hq4 (And.intro hr4 (hu4.trans HP3.out.2.2))))
              clear bA hk4 ho4 hq4 hr4 hu4 HNX HK3
              go_upto_region 25 with (fail)
              generalize w4.alloc (.cells #[.int .u8 2, .int .i64 1, .slice KB 1 kc, .int .i64 0] 71) = w5 at HK4 ⊢
              have HRP := Lib.hid (HK4.out.reply q HP4.out.1 HP4.out.2.1 HP4.out.2.2.1 HRO.out (by show 0 < 1; omega) (fun t ht => by obtain ⟨v, _, rfl⟩ := List.mem_map.1 ht; show 0 < 1; omega) (by have := HK4.out.s.len; have := HP.out.2.2.2.1; simp; omega) (by rw [HP4.out.2.2.2]; have := HP.out.2.2.1; omega) (hs.map lgT) (after_no _ _ _ _ (by decide)))
              have k10 := HK4.out.k10
              have r0 := k10.cell 0 _ rfl
              have r1 := k10.cell 1 _ rfl
              have r2 := k10.cell 2 _ rfl
              have r3 := k10.cell 3 _ rfl
              have r4 := k10.cell 4 _ rfl
              have r5 := k10.cell 5 _ rfl
              have rl := k10.lt
              clear k10
              go_wp2_with fail
              with_reducible refine (HRP.out).mono ?_
              rintro e w6 ⟨D6, rfl, hk6, ho6, hr6, hu6⟩
              have HK6 := Lib.hid hk6
              have HP6 := Lib.hid (And.intro ho6 (And.intro hr6 (hu6.trans (congrArg (· + 38) (congrArg List.length HP4.out.2.2.2)))))
              have k9 := HK6.out.k9
              have k10 := HK6.out.k10
              have a0 := k9.cell 0 _ rfl
              have a3 := k9.cell 3 _ rfl
              have al := k9.lt
              have r0 := k10.cell 0 _ rfl
              have r4 := k10.cell 4 _ rfl
              have rl := k10.lt
              clear hk6 ho6 hr6 hu6 HRP HK4 r1 r2 r3 r5 k9 k10
              have HREL : Hid (LgI w w0.heap.size cb rb (some ⟨b, off, none⟩) n c zs (.slice A' m c') (.int .i64 (k + 1 : Nat)) (.int .i64 ((i + 1 : Nat) : Int)) w6) := Lib.hid (by
                have hpr := HP.out
                exact ⟨i + 1, k + 1, m, c', A', D6, hs, by omega, by omega, rfl, rfl, rfl, by omega, HK6.out.s, HP6.out.2.1, HP6.out.1, by rw [HP6.out.2.2]; have := hpr.2.2.1; omega, by have := hpr.2.2.2.1; omega, hpr.2.2.2.2, HK6.out.bw, HK6.out.sa⟩)
              go_wp2
              go_roundw
              case rel => have := HREL.out; simpa using this
              case measure => simp [intOf]; omega
            · obtain ⟨b16, hb16⟩ : ∃ b16 : Nat, s % 16 = b16 := ⟨_, rfl⟩
              have t16 : Int.tmod (s : Int) 16 = (b16 : Int) := by rw [Int.tmod_eq_emod_of_nonneg (by omega)]; omega
              have d16 : ((b16 : Int) == 3) = false := beq_eq_false_iff_ne.2 (by omega)
              clear hb16 h16
              go_upto_region 22 with (fail)
              have HX : Hid (rqC (2 : Nat) 1 0 1 = 0 ∧ usedV (⟨2, 1, 0, [97 + b2]⟩ : ClV) = (⟨2, 1, 0, [97 + b2]⟩ : ClV)) := Lib.hid ⟨by decide, rfl⟩
              have HRO : Hid (RpV.ok ⟨0, true, 0, 0, 2 * ((k : Int) + 1) + (b2 : Int), 0⟩ = true) := Lib.hid (by first | decide | (simp [RpV.ok, RpV.eB, tkB]; omega))
              have hb1 := (Below.refl wr.heap.size wr).alloc (Nat.le_refl _) (.cells #[.int .u8 (97 + (b2 : Int))] 5)
              have hbz : Below wr.heap.size wr (((wr.alloc (.cells #[.int .u8 (97 + (b2 : Int))] 5)).alloc (.cells #[.int .u8 2, .int .i64 1, .slice (some ⟨wr.heap.size, 0, none⟩) 1 1, .int .i64 0] 71)).alloc (.cells #[.int .i64 0, .bool true, .int .i64 0, .int .i64 0, .int .i64 (2 * ((k : Int) + 1) + (b2 : Int)), .int .i64 0] 82)) := ((hb1.alloc (by simp) _).alloc (by simp; omega) _)
              have HK : Hid (LgK w (((wr.alloc (.cells #[.int .u8 (97 + (b2 : Int))] 5)).alloc (.cells #[.int .u8 2, .int .i64 1, .slice (some ⟨wr.heap.size, 0, none⟩) 1 1, .int .i64 0] 71)).alloc (.cells #[.int .i64 0, .bool true, .int .i64 0, .int .i64 0, .int .i64 (2 * ((k : Int) + 1) + (b2 : Int)), .int .i64 0] 82)) (some ⟨b, off, none⟩) n c zs w0.heap.size cb rb D A' m c' hs (hs.map lgT) (wr.heap.size + 1) (wr.heap.size + 1 + 1) ⟨2, 1, 0, [97 + b2]⟩ (some ⟨wr.heap.size, 0, none⟩) ⟨0, true, 0, 0, 2 * ((k : Int) + 1) + (b2 : Int), 0⟩) := Lib.hid (by
                have hs' := HG.out.below hbz
                refine ⟨hs', HBW.out.trans (hbz.mono HBW.out.size), HB0S.out, HAR.out.below (hbz.mono HBW.out.size), ?_, ?_, fun e => ?_, fun e => ?_, fun e => ?_, fun e => ?_⟩
                · have := (BlkL.new (wr.alloc (.cells #[.int .u8 (97 + (b2 : Int))] 5)) [.int .u8 2, .int .i64 1, .slice (some ⟨wr.heap.size, 0, none⟩) 1 1, .int .i64 0] 71).alloc (.cells #[.int .i64 0, .bool true, .int .i64 0, .int .i64 0, .int .i64 (2 * ((k : Int) + 1) + (b2 : Int)), .int .i64 0] 82)
                  simpa using this
                · have := BlkL.new ((wr.alloc (.cells #[.int .u8 (97 + (b2 : Int))] 5)).alloc (.cells #[.int .u8 2, .int .i64 1, .slice (some ⟨wr.heap.size, 0, none⟩) 1 1, .int .i64 0] 71)) [.int .i64 0, .bool true, .int .i64 0, .int .i64 0, .int .i64 (2 * ((k : Int) + 1) + (b2 : Int)), .int .i64 0] 82
                  simpa using this
                · have := (HG.out.cn.lt _ e).2; omega
                · have := (HG.out.cn.lt _ e).2; omega
                · have := (HG.out.own.lt _ e).2; omega
                · have := (HG.out.own.lt _ e).2; omega)
              have HAK : Hid (Arg (((wr.alloc (.cells #[.int .u8 (97 + (b2 : Int))] 5)).alloc (.cells #[.int .u8 2, .int .i64 1, .slice (some ⟨wr.heap.size, 0, none⟩) 1 1, .int .i64 0] 71)).alloc (.cells #[.int .i64 0, .bool true, .int .i64 0, .int .i64 0, .int .i64 (2 * ((k : Int) + 1) + (b2 : Int)), .int .i64 0] 82)) (((wr.alloc (.cells #[.int .u8 (97 + (b2 : Int))] 5)).alloc (.cells #[.int .u8 2, .int .i64 1, .slice (some ⟨wr.heap.size, 0, none⟩) 1 1, .int .i64 0] 71)).alloc (.cells #[.int .i64 0, .bool true, .int .i64 0, .int .i64 0, .int .i64 (2 * ((k : Int) + 1) + (b2 : Int)), .int .i64 0] 82)).heap.size (some ⟨wr.heap.size, 0, none⟩) 1 1 [97 + b2]) := Lib.hid (by
                have l1 : Arg (wr.alloc (.cells #[.int .u8 (97 + (b2 : Int))] 5)) (wr.heap.size + 1) (some ⟨wr.heap.size, 0, none⟩) 1 1 [97 + b2] := by
                  have := lit1 wr (97 + b2) (0, 0) (by omega)
                  simpa using this
                have b1 := (Below.refl (wr.heap.size + 1) (wr.alloc (.cells #[.int .u8 (97 + (b2 : Int))] 5))).alloc (by simp) (.cells #[.int .u8 2, .int .i64 1, .slice (some ⟨wr.heap.size, 0, none⟩) 1 1, .int .i64 0] 71)
                exact ((l1.below b1).below ((Below.refl _ _).alloc (by simp) _)).more (by simp))
              clear hb1 hbz
              generalize (((wr.alloc (.cells #[.int .u8 (97 + (b2 : Int))] 5)).alloc (.cells #[.int .u8 2, .int .i64 1, .slice (some ⟨wr.heap.size, 0, none⟩) 1 1, .int .i64 0] 71)).alloc (.cells #[.int .i64 0, .bool true, .int .i64 0, .int .i64 0, .int .i64 (2 * ((k : Int) + 1) + (b2 : Int)), .int .i64 0] 82)) = wz at HK HAK ⊢
              obtain ⟨fl, hfl⟩ : ∃ fl, (rqF ⟨2, 1, 0, [97 + b2]⟩).length = fl := ⟨_, rfl⟩
              have HRQ : Hid (Calls Try.prog 59 #[.agg #[.int .u8 2, .int .i64 1, .slice (some ⟨wr.heap.size, 0, none⟩) 1 1, .int .i64 0]] wz fun e w' => ∃ XA xc, e = .returned (.slice XA fl xc) ∧ OwnV w' wz.heap.size XA fl xc ((rqF ⟨2, 1, 0, [97 + b2]⟩).map V8) ∧ (∀ d ∈ rqF ⟨2, 1, 0, [97 + b2]⟩, d < 256) ∧ Below wz.heap.size wz w') := Lib.hid (by
                refine (req_any wz wz.heap.size ⟨2, 1, 0, [97 + b2]⟩ (some ⟨wr.heap.size, 0, none⟩) 1 1 HAK.out (Nat.le_refl _)).mono ?_
                rintro e w' ⟨XA, xc, g1, g2, g3, _, g5⟩
                rw [hfl] at g1 g2
                exact ⟨XA, xc, g1, g2, g3, g5⟩)
              have HFL := Lib.hid hfl
              clear hfl
              have k9 := HK.out.k9
              have a0 := k9.cell 0 _ rfl
              have a1 := k9.cell 1 _ rfl
              have a2 := k9.cell 2 _ rfl
              have a3 := k9.cell 3 _ rfl
              have al := k9.lt
              clear k9
              go_wp2_with fail
              with_reducible refine (HRQ.out).mono ?_
              rintro e w2 ⟨XA, xc, rfl, ho, hby, hb2⟩
              have HK2 := Lib.hid (HK.out.below hb2)
              have HFD := Lib.hid (HK2.out.feed HP.out.1 HP.out.2.1 (by have := HX.out; exact this.1) HX.out.2 XA fl xc (ho.arg' hby))
              clear ho hby hb2 HRQ HK HAK a0 a1 a2 a3 al
              go_wp2_with fail
              with_reducible refine (HFD.out).mono ?_
              rintro e w3 ⟨D3, rfl, hk3, hr3, ho3, hu3⟩
              have HK3 := Lib.hid hk3
              have HP3 := Lib.hid (And.intro hr3 (And.intro ho3 hu3))
              have HNX := Lib.hid (HK3.out.next HP3.out.1 HP3.out.2.1 1 rfl (by omega))
              clear hk3 hr3 ho3 hu3 HFD HK2
              go_wp2_with fail
              with_reducible refine (HNX.out).mono ?_
              rintro e w4 ⟨KB, kc, D4, q, rfl, hk4, ho4, hq4, hr4, hu4⟩
              have bA := (Below.refl w4.heap.size w4).alloc (Nat.le_refl _) (.cells #[.int .u8 2, .int .i64 1, .slice KB 1 kc, .int .i64 0] 71)
              have HK4 : Hid (LgK w (w4.alloc (.cells #[.int .u8 2, .int .i64 1, .slice KB 1 kc, .int .i64 0] 71)) (some ⟨b, off, none⟩) n c zs w0.heap.size cb rb D4 A' m c' hs (hs.map lgT) (wr.heap.size + 1) (wr.heap.size + 1 + 1) ⟨2, 1, 0, [97 + b2]⟩ (some ⟨wr.heap.size, 0, none⟩) ⟨0, true, 0, 0, 2 * ((k : Int) + 1) + (b2 : Int), 0⟩) := Lib.hid (hk4.below bA)
              have HP4 := Lib.hid (And.intro ho4 (And.intro hq4 (And.intro hr4 (hu4.trans HP3.out.2.2))))
              clear bA hk4 ho4 hq4 hr4 hu4 HNX HK3
              go_upto_region 25 with (fail)
              generalize w4.alloc (.cells #[.int .u8 2, .int .i64 1, .slice KB 1 kc, .int .i64 0] 71) = w5 at HK4 ⊢
              have HRP := Lib.hid (HK4.out.reply q HP4.out.1 HP4.out.2.1 HP4.out.2.2.1 HRO.out (by show 0 < 1; omega) (fun t ht => by obtain ⟨v, _, rfl⟩ := List.mem_map.1 ht; show 0 < 1; omega) (by have := HK4.out.s.len; have := HP.out.2.2.2.1; simp; omega) (by rw [HP4.out.2.2.2]; have := HP.out.2.2.1; omega) (hs.map lgT ++ [⟨1, 2 * ((k : Int) + 1) + (b2 : Int), [97 + b2]⟩]) (after_acq _ _ _))
              have k10 := HK4.out.k10
              have r0 := k10.cell 0 _ rfl
              have r1 := k10.cell 1 _ rfl
              have r2 := k10.cell 2 _ rfl
              have r3 := k10.cell 3 _ rfl
              have r4 := k10.cell 4 _ rfl
              have r5 := k10.cell 5 _ rfl
              have rl := k10.lt
              clear k10
              go_wp2_with fail
              with_reducible refine (HRP.out).mono ?_
              rintro e w6 ⟨D6, rfl, hk6, ho6, hr6, hu6⟩
              have HK6 := Lib.hid hk6
              have HP6 := Lib.hid (And.intro ho6 (And.intro hr6 (hu6.trans (congrArg (· + 38) (congrArg List.length HP4.out.2.2.2)))))
              have k9 := HK6.out.k9
              have k10 := HK6.out.k10
              have a0 := k9.cell 0 _ rfl
              have a3 := k9.cell 3 _ rfl
              have al := k9.lt
              have r0 := k10.cell 0 _ rfl
              have r4 := k10.cell 4 _ rfl
              have rl := k10.lt
              clear hk6 ho6 hr6 hu6 HRP HK4 r1 r2 r3 r5 k9 k10
              obtain ⟨i0', hi0, hz0, hz1, hz2⟩ := info_parts64
              have bl := (Below.refl w6.heap.size w6).alloc (Nat.le_refl _) (.cells #[.int .i64 (2 * ((k : Int) + 1) + (b2 : Int))] 2)
              have HK7 := Lib.hid (HK6.out.below bl)
              have HLIT : Hid (BlkL (w6.alloc (.cells #[.int .i64 (2 * ((k : Int) + 1) + (b2 : Int))] 2)) w6.heap.size [.int .i64 (2 * ((k : Int) + 1) + (b2 : Int))]) := Lib.hid (BlkL.new w6 _ _)
              have hone : ∀ v ∈ ([.int .i64 (2 * ((k : Int) + 1) + (b2 : Int))] : List Value), v.oneCell' = true := by intro v hv; simp at hv; subst hv; rfl
              have HZ7 := Lib.hid HK7.out.s.hB
              have hmm : (m + 1) * 8 ≤ 140737488355328 := by have := HP.out.2.2.2.1; omega
              clear bl
              go_wp2_with (refine wpList_append_v Try.underlying107 hi0 hz0 hz1 hz2 rfl rfl (.tmp 106) (.tmp 109) rfl rfl HK7.out.s.own w6.heap.size 1 1 [.int .i64 (2 * ((k : Int) + 1) + (b2 : Int))] rfl rfl HLIT.out hone (by omega) (by omega) hmm HZ7.out ?_)
              intro A8 c8 w8 ho8 hf8 hb8
              have ho8' : OwnV w8 w0.heap.size A8 (m + 1) c8 ((hs ++ [2 * ((k : Int) + 1) + (b2 : Int)]).map lgI) := by rw [List.map_append]; exact ho8
              have HK8 := Lib.hid (HK7.out.grow ho8' hf8 (fun y hy => (hb8 y hy).imp id (fun e => by simp only [World.size_alloc]; omega)))
              have k9 := HK8.out.k9
              have k10 := HK8.out.k10
              have a0 := k9.cell 0 _ rfl
              have al := k9.lt
              have r0 := k10.cell 0 _ rfl
              have rl := k10.lt
              clear ho8 hf8 hb8 ho8' k9 k10
              have HREL : Hid (LgI w w0.heap.size cb rb (some ⟨b, off, none⟩) n c zs (.slice A8 (m + 1) c8) (.int .i64 ((k + 1 : Nat) : Int)) (.int .i64 ((i + 1 : Nat) : Int)) w8) := Lib.hid (by
                have hpr := HP.out
                refine ⟨i + 1, k + 1, m + 1, c8, A8, D6, hs ++ [2 * ((k : Int) + 1) + (b2 : Int)], by omega, by omega, rfl, rfl, rfl, by omega, ?_, HP6.out.2.1, HP6.out.1, by rw [HP6.out.2.2]; have := hpr.2.2.1; omega, by have := hpr.2.2.2.1; omega, fun v hv => ?_, HK8.out.bw, HK8.out.sa⟩
                · have e : (hs ++ [2 * ((k : Int) + 1) + (b2 : Int)]).map lgT = hs.map lgT ++ [⟨1, 2 * ((k : Int) + 1) + (b2 : Int), [97 + b2]⟩] := by
                    rw [List.map_append]; congr 1
                    simp only [List.map_cons, List.map_nil, lgT]
                    have : ((2 * ((k : Int) + 1) + (b2 : Int)) % 2).toNat = b2 := by omega
                    rw [this]
                  rw [e]; exact HK8.out.s
                · rcases List.mem_append.1 hv with g | g
                  · exact hpr.2.2.2.2 v g
                  · simp at g; subst g; omega)
              go_wp2
              go_roundw
              case rel => have := HREL.out; simpa using this
              case measure => simp [intOf]; omega
          · have d8 : decide ((b8 : Int) < 4) = false := decide_eq_false (by omega)
            clear hb8
            by_cases hm0 : m = 0
            · have dm : ((m : Int) == 0) = true := by rw [hm0]; rfl
              have HM0 := Lib.hid hm0
              clear hm0
              by_cases h16 : s % 16 = 3
              · have t16 : Int.tmod (s : Int) 16 = 3 := by rw [Int.tmod_eq_emod_of_nonneg (by omega)]; omega
                go_upto_region 22 with (fail)
                have HX : Hid (rqC (2 : Nat) 1 0 1 = 0 ∧ usedV (⟨2, 1, 0, [97 + b2]⟩ : ClV) = (⟨2, 1, 0, [97 + b2]⟩ : ClV)) := Lib.hid ⟨by decide, rfl⟩
                have HRO : Hid (RpV.ok ⟨9, false, 0, 0, 0, 0⟩ = true) := Lib.hid (by first | decide | (simp [RpV.ok, RpV.eB, tkB]; omega))
                have hb1 := (Below.refl wr.heap.size wr).alloc (Nat.le_refl _) (.cells #[.int .u8 (97 + (b2 : Int))] 5)
                have hbz : Below wr.heap.size wr (((wr.alloc (.cells #[.int .u8 (97 + (b2 : Int))] 5)).alloc (.cells #[.int .u8 2, .int .i64 1, .slice (some ⟨wr.heap.size, 0, none⟩) 1 1, .int .i64 0] 71)).alloc (.cells #[.int .i64 9, .bool false, .int .i64 0, .int .i64 0, .int .i64 0, .int .i64 0] 82)) := ((hb1.alloc (by simp) _).alloc (by simp; omega) _)
                have HK : Hid (LgK w (((wr.alloc (.cells #[.int .u8 (97 + (b2 : Int))] 5)).alloc (.cells #[.int .u8 2, .int .i64 1, .slice (some ⟨wr.heap.size, 0, none⟩) 1 1, .int .i64 0] 71)).alloc (.cells #[.int .i64 9, .bool false, .int .i64 0, .int .i64 0, .int .i64 0, .int .i64 0] 82)) (some ⟨b, off, none⟩) n c zs w0.heap.size cb rb D A' m c' hs (hs.map lgT) (wr.heap.size + 1) (wr.heap.size + 1 + 1) ⟨2, 1, 0, [97 + b2]⟩ (some ⟨wr.heap.size, 0, none⟩) ⟨9, false, 0, 0, 0, 0⟩) := Lib.hid (by
                  have hs' := HG.out.below hbz
                  refine ⟨hs', HBW.out.trans (hbz.mono HBW.out.size), HB0S.out, HAR.out.below (hbz.mono HBW.out.size), ?_, ?_, fun e => ?_, fun e => ?_, fun e => ?_, fun e => ?_⟩
                  · have := (BlkL.new (wr.alloc (.cells #[.int .u8 (97 + (b2 : Int))] 5)) [.int .u8 2, .int .i64 1, .slice (some ⟨wr.heap.size, 0, none⟩) 1 1, .int .i64 0] 71).alloc (.cells #[.int .i64 9, .bool false, .int .i64 0, .int .i64 0, .int .i64 0, .int .i64 0] 82)
                    simpa using this
                  · have := BlkL.new ((wr.alloc (.cells #[.int .u8 (97 + (b2 : Int))] 5)).alloc (.cells #[.int .u8 2, .int .i64 1, .slice (some ⟨wr.heap.size, 0, none⟩) 1 1, .int .i64 0] 71)) [.int .i64 9, .bool false, .int .i64 0, .int .i64 0, .int .i64 0, .int .i64 0] 82
                    simpa using this
                  · have := (HG.out.cn.lt _ e).2; omega
                  · have := (HG.out.cn.lt _ e).2; omega
                  · have := (HG.out.own.lt _ e).2; omega
                  · have := (HG.out.own.lt _ e).2; omega)
                have HAK : Hid (Arg (((wr.alloc (.cells #[.int .u8 (97 + (b2 : Int))] 5)).alloc (.cells #[.int .u8 2, .int .i64 1, .slice (some ⟨wr.heap.size, 0, none⟩) 1 1, .int .i64 0] 71)).alloc (.cells #[.int .i64 9, .bool false, .int .i64 0, .int .i64 0, .int .i64 0, .int .i64 0] 82)) (((wr.alloc (.cells #[.int .u8 (97 + (b2 : Int))] 5)).alloc (.cells #[.int .u8 2, .int .i64 1, .slice (some ⟨wr.heap.size, 0, none⟩) 1 1, .int .i64 0] 71)).alloc (.cells #[.int .i64 9, .bool false, .int .i64 0, .int .i64 0, .int .i64 0, .int .i64 0] 82)).heap.size (some ⟨wr.heap.size, 0, none⟩) 1 1 [97 + b2]) := Lib.hid (by
                  have l1 : Arg (wr.alloc (.cells #[.int .u8 (97 + (b2 : Int))] 5)) (wr.heap.size + 1) (some ⟨wr.heap.size, 0, none⟩) 1 1 [97 + b2] := by
                    have := lit1 wr (97 + b2) (0, 0) (by omega)
                    simpa using this
                  have b1 := (Below.refl (wr.heap.size + 1) (wr.alloc (.cells #[.int .u8 (97 + (b2 : Int))] 5))).alloc (by simp) (.cells #[.int .u8 2, .int .i64 1, .slice (some ⟨wr.heap.size, 0, none⟩) 1 1, .int .i64 0] 71)
                  exact ((l1.below b1).below ((Below.refl _ _).alloc (by simp) _)).more (by simp))
                clear hb1 hbz
                generalize (((wr.alloc (.cells #[.int .u8 (97 + (b2 : Int))] 5)).alloc (.cells #[.int .u8 2, .int .i64 1, .slice (some ⟨wr.heap.size, 0, none⟩) 1 1, .int .i64 0] 71)).alloc (.cells #[.int .i64 9, .bool false, .int .i64 0, .int .i64 0, .int .i64 0, .int .i64 0] 82)) = wz at HK HAK ⊢
                obtain ⟨fl, hfl⟩ : ∃ fl, (rqF ⟨2, 1, 0, [97 + b2]⟩).length = fl := ⟨_, rfl⟩
                have HRQ : Hid (Calls Try.prog 59 #[.agg #[.int .u8 2, .int .i64 1, .slice (some ⟨wr.heap.size, 0, none⟩) 1 1, .int .i64 0]] wz fun e w' => ∃ XA xc, e = .returned (.slice XA fl xc) ∧ OwnV w' wz.heap.size XA fl xc ((rqF ⟨2, 1, 0, [97 + b2]⟩).map V8) ∧ (∀ d ∈ rqF ⟨2, 1, 0, [97 + b2]⟩, d < 256) ∧ Below wz.heap.size wz w') := Lib.hid (by
                  refine (req_any wz wz.heap.size ⟨2, 1, 0, [97 + b2]⟩ (some ⟨wr.heap.size, 0, none⟩) 1 1 HAK.out (Nat.le_refl _)).mono ?_
                  rintro e w' ⟨XA, xc, g1, g2, g3, _, g5⟩
                  rw [hfl] at g1 g2
                  exact ⟨XA, xc, g1, g2, g3, g5⟩)
                have HFL := Lib.hid hfl
                clear hfl
                have k9 := HK.out.k9
                have a0 := k9.cell 0 _ rfl
                have a1 := k9.cell 1 _ rfl
                have a2 := k9.cell 2 _ rfl
                have a3 := k9.cell 3 _ rfl
                have al := k9.lt
                clear k9
                go_wp2_with fail
                with_reducible refine (HRQ.out).mono ?_
                rintro e w2 ⟨XA, xc, rfl, ho, hby, hb2⟩
                have HK2 := Lib.hid (HK.out.below hb2)
                have HFD := Lib.hid (HK2.out.feed HP.out.1 HP.out.2.1 (by have := HX.out; exact this.1) HX.out.2 XA fl xc (ho.arg' hby))
                clear ho hby hb2 HRQ HK HAK a0 a1 a2 a3 al
                go_wp2_with fail
                with_reducible refine (HFD.out).mono ?_
                rintro e w3 ⟨D3, rfl, hk3, hr3, ho3, hu3⟩
                have HK3 := Lib.hid hk3
                have HP3 := Lib.hid (And.intro hr3 (And.intro ho3 hu3))
                have HNX := Lib.hid (HK3.out.next HP3.out.1 HP3.out.2.1 1 rfl (by omega))
                clear hk3 hr3 ho3 hu3 HFD HK2
                go_wp2_with fail
                with_reducible refine (HNX.out).mono ?_
                rintro e w4 ⟨KB, kc, D4, q, rfl, hk4, ho4, hq4, hr4, hu4⟩
                have bA := (Below.refl w4.heap.size w4).alloc (Nat.le_refl _) (.cells #[.int .u8 2, .int .i64 1, .slice KB 1 kc, .int .i64 0] 71)
                have HK4 : Hid (LgK w (w4.alloc (.cells #[.int .u8 2, .int .i64 1, .slice KB 1 kc, .int .i64 0] 71)) (some ⟨b, off, none⟩) n c zs w0.heap.size cb rb D4 A' m c' hs (hs.map lgT) (wr.heap.size + 1) (wr.heap.size + 1 + 1) ⟨2, 1, 0, [97 + b2]⟩ (some ⟨wr.heap.size, 0, none⟩) ⟨9, false, 0, 0, 0, 0⟩) := Lib.hid (hk4.below bA)
                have HP4 := Lib.hid (And.intro ho4 (And.intro hq4 (And.intro hr4 (hu4.trans HP3.out.2.2))))
                clear bA hk4 ho4 hq4 hr4 hu4 HNX HK3
                go_upto_region 25 with (fail)
                generalize w4.alloc (.cells #[.int .u8 2, .int .i64 1, .slice KB 1 kc, .int .i64 0] 71) = w5 at HK4 ⊢
                have HRP := Lib.hid (HK4.out.reply q HP4.out.1 HP4.out.2.1 HP4.out.2.2.1 HRO.out (by show 0 < 1; omega) (fun t ht => by obtain ⟨v, _, rfl⟩ := List.mem_map.1 ht; show 0 < 1; omega) (by have := HK4.out.s.len; have := HP.out.2.2.2.1; simp; omega) (by rw [HP4.out.2.2.2]; have := HP.out.2.2.1; omega) (hs.map lgT) (after_no _ _ _ _ (by decide)))
                have k10 := HK4.out.k10
                have r0 := k10.cell 0 _ rfl
                have r1 := k10.cell 1 _ rfl
                have r2 := k10.cell 2 _ rfl
                have r3 := k10.cell 3 _ rfl
                have r4 := k10.cell 4 _ rfl
                have r5 := k10.cell 5 _ rfl
                have rl := k10.lt
                clear k10
                go_wp2_with fail
                with_reducible refine (HRP.out).mono ?_
                rintro e w6 ⟨D6, rfl, hk6, ho6, hr6, hu6⟩
                have HK6 := Lib.hid hk6
                have HP6 := Lib.hid (And.intro ho6 (And.intro hr6 (hu6.trans (congrArg (· + 38) (congrArg List.length HP4.out.2.2.2)))))
                have k9 := HK6.out.k9
                have k10 := HK6.out.k10
                have a0 := k9.cell 0 _ rfl
                have a3 := k9.cell 3 _ rfl
                have al := k9.lt
                have r0 := k10.cell 0 _ rfl
                have r4 := k10.cell 4 _ rfl
                have rl := k10.lt
                clear hk6 ho6 hr6 hu6 HRP HK4 r1 r2 r3 r5 k9 k10
                have HREL : Hid (LgI w w0.heap.size cb rb (some ⟨b, off, none⟩) n c zs (.slice A' m c') (.int .i64 (k + 1 : Nat)) (.int .i64 ((i + 1 : Nat) : Int)) w6) := Lib.hid (by
                  have hpr := HP.out
                  exact ⟨i + 1, k + 1, m, c', A', D6, hs, by omega, by omega, rfl, rfl, rfl, by omega, HK6.out.s, HP6.out.2.1, HP6.out.1, by rw [HP6.out.2.2]; have := hpr.2.2.1; omega, by have := hpr.2.2.2.1; omega, hpr.2.2.2.2, HK6.out.bw, HK6.out.sa⟩)
                go_wp2
                go_roundw
                case rel => have := HREL.out; simpa using this
                case measure => simp [intOf]; omega
              · obtain ⟨b16, hb16⟩ : ∃ b16 : Nat, s % 16 = b16 := ⟨_, rfl⟩
                have t16 : Int.tmod (s : Int) 16 = (b16 : Int) := by rw [Int.tmod_eq_emod_of_nonneg (by omega)]; omega
                have d16 : ((b16 : Int) == 3) = false := beq_eq_false_iff_ne.2 (by omega)
                clear hb16 h16
                go_upto_region 22 with (fail)
                have HX : Hid (rqC (2 : Nat) 1 0 1 = 0 ∧ usedV (⟨2, 1, 0, [97 + b2]⟩ : ClV) = (⟨2, 1, 0, [97 + b2]⟩ : ClV)) := Lib.hid ⟨by decide, rfl⟩
                have HRO : Hid (RpV.ok ⟨0, true, 0, 0, 2 * ((k : Int) + 1) + (b2 : Int), 0⟩ = true) := Lib.hid (by first | decide | (simp [RpV.ok, RpV.eB, tkB]; omega))
                have hb1 := (Below.refl wr.heap.size wr).alloc (Nat.le_refl _) (.cells #[.int .u8 (97 + (b2 : Int))] 5)
                have hbz : Below wr.heap.size wr (((wr.alloc (.cells #[.int .u8 (97 + (b2 : Int))] 5)).alloc (.cells #[.int .u8 2, .int .i64 1, .slice (some ⟨wr.heap.size, 0, none⟩) 1 1, .int .i64 0] 71)).alloc (.cells #[.int .i64 0, .bool true, .int .i64 0, .int .i64 0, .int .i64 (2 * ((k : Int) + 1) + (b2 : Int)), .int .i64 0] 82)) := ((hb1.alloc (by simp) _).alloc (by simp; omega) _)
                have HK : Hid (LgK w (((wr.alloc (.cells #[.int .u8 (97 + (b2 : Int))] 5)).alloc (.cells #[.int .u8 2, .int .i64 1, .slice (some ⟨wr.heap.size, 0, none⟩) 1 1, .int .i64 0] 71)).alloc (.cells #[.int .i64 0, .bool true, .int .i64 0, .int .i64 0, .int .i64 (2 * ((k : Int) + 1) + (b2 : Int)), .int .i64 0] 82)) (some ⟨b, off, none⟩) n c zs w0.heap.size cb rb D A' m c' hs (hs.map lgT) (wr.heap.size + 1) (wr.heap.size + 1 + 1) ⟨2, 1, 0, [97 + b2]⟩ (some ⟨wr.heap.size, 0, none⟩) ⟨0, true, 0, 0, 2 * ((k : Int) + 1) + (b2 : Int), 0⟩) := Lib.hid (by
                  have hs' := HG.out.below hbz
                  refine ⟨hs', HBW.out.trans (hbz.mono HBW.out.size), HB0S.out, HAR.out.below (hbz.mono HBW.out.size), ?_, ?_, fun e => ?_, fun e => ?_, fun e => ?_, fun e => ?_⟩
                  · have := (BlkL.new (wr.alloc (.cells #[.int .u8 (97 + (b2 : Int))] 5)) [.int .u8 2, .int .i64 1, .slice (some ⟨wr.heap.size, 0, none⟩) 1 1, .int .i64 0] 71).alloc (.cells #[.int .i64 0, .bool true, .int .i64 0, .int .i64 0, .int .i64 (2 * ((k : Int) + 1) + (b2 : Int)), .int .i64 0] 82)
                    simpa using this
                  · have := BlkL.new ((wr.alloc (.cells #[.int .u8 (97 + (b2 : Int))] 5)).alloc (.cells #[.int .u8 2, .int .i64 1, .slice (some ⟨wr.heap.size, 0, none⟩) 1 1, .int .i64 0] 71)) [.int .i64 0, .bool true, .int .i64 0, .int .i64 0, .int .i64 (2 * ((k : Int) + 1) + (b2 : Int)), .int .i64 0] 82
                    simpa using this
                  · have := (HG.out.cn.lt _ e).2; omega
                  · have := (HG.out.cn.lt _ e).2; omega
                  · have := (HG.out.own.lt _ e).2; omega
                  · have := (HG.out.own.lt _ e).2; omega)
                have HAK : Hid (Arg (((wr.alloc (.cells #[.int .u8 (97 + (b2 : Int))] 5)).alloc (.cells #[.int .u8 2, .int .i64 1, .slice (some ⟨wr.heap.size, 0, none⟩) 1 1, .int .i64 0] 71)).alloc (.cells #[.int .i64 0, .bool true, .int .i64 0, .int .i64 0, .int .i64 (2 * ((k : Int) + 1) + (b2 : Int)), .int .i64 0] 82)) (((wr.alloc (.cells #[.int .u8 (97 + (b2 : Int))] 5)).alloc (.cells #[.int .u8 2, .int .i64 1, .slice (some ⟨wr.heap.size, 0, none⟩) 1 1, .int .i64 0] 71)).alloc (.cells #[.int .i64 0, .bool true, .int .i64 0, .int .i64 0, .int .i64 (2 * ((k : Int) + 1) + (b2 : Int)), .int .i64 0] 82)).heap.size (some ⟨wr.heap.size, 0, none⟩) 1 1 [97 + b2]) := Lib.hid (by
                  have l1 : Arg (wr.alloc (.cells #[.int .u8 (97 + (b2 : Int))] 5)) (wr.heap.size + 1) (some ⟨wr.heap.size, 0, none⟩) 1 1 [97 + b2] := by
                    have := lit1 wr (97 + b2) (0, 0) (by omega)
                    simpa using this
                  have b1 := (Below.refl (wr.heap.size + 1) (wr.alloc (.cells #[.int .u8 (97 + (b2 : Int))] 5))).alloc (by simp) (.cells #[.int .u8 2, .int .i64 1, .slice (some ⟨wr.heap.size, 0, none⟩) 1 1, .int .i64 0] 71)
                  exact ((l1.below b1).below ((Below.refl _ _).alloc (by simp) _)).more (by simp))
                clear hb1 hbz
                generalize (((wr.alloc (.cells #[.int .u8 (97 + (b2 : Int))] 5)).alloc (.cells #[.int .u8 2, .int .i64 1, .slice (some ⟨wr.heap.size, 0, none⟩) 1 1, .int .i64 0] 71)).alloc (.cells #[.int .i64 0, .bool true, .int .i64 0, .int .i64 0, .int .i64 (2 * ((k : Int) + 1) + (b2 : Int)), .int .i64 0] 82)) = wz at HK HAK ⊢
                obtain ⟨fl, hfl⟩ : ∃ fl, (rqF ⟨2, 1, 0, [97 + b2]⟩).length = fl := ⟨_, rfl⟩
                have HRQ : Hid (Calls Try.prog 59 #[.agg #[.int .u8 2, .int .i64 1, .slice (some ⟨wr.heap.size, 0, none⟩) 1 1, .int .i64 0]] wz fun e w' => ∃ XA xc, e = .returned (.slice XA fl xc) ∧ OwnV w' wz.heap.size XA fl xc ((rqF ⟨2, 1, 0, [97 + b2]⟩).map V8) ∧ (∀ d ∈ rqF ⟨2, 1, 0, [97 + b2]⟩, d < 256) ∧ Below wz.heap.size wz w') := Lib.hid (by
                  refine (req_any wz wz.heap.size ⟨2, 1, 0, [97 + b2]⟩ (some ⟨wr.heap.size, 0, none⟩) 1 1 HAK.out (Nat.le_refl _)).mono ?_
                  rintro e w' ⟨XA, xc, g1, g2, g3, _, g5⟩
                  rw [hfl] at g1 g2
                  exact ⟨XA, xc, g1, g2, g3, g5⟩)
                have HFL := Lib.hid hfl
                clear hfl
                have k9 := HK.out.k9
                have a0 := k9.cell 0 _ rfl
                have a1 := k9.cell 1 _ rfl
                have a2 := k9.cell 2 _ rfl
                have a3 := k9.cell 3 _ rfl
                have al := k9.lt
                clear k9
                go_wp2_with fail
                with_reducible refine (HRQ.out).mono ?_
                rintro e w2 ⟨XA, xc, rfl, ho, hby, hb2⟩
                have HK2 := Lib.hid (HK.out.below hb2)
                have HFD := Lib.hid (HK2.out.feed HP.out.1 HP.out.2.1 (by have := HX.out; exact this.1) HX.out.2 XA fl xc (ho.arg' hby))
                clear ho hby hb2 HRQ HK HAK a0 a1 a2 a3 al
                go_wp2_with fail
                with_reducible refine (HFD.out).mono ?_
                rintro e w3 ⟨D3, rfl, hk3, hr3, ho3, hu3⟩
                have HK3 := Lib.hid hk3
                have HP3 := Lib.hid (And.intro hr3 (And.intro ho3 hu3))
                have HNX := Lib.hid (HK3.out.next HP3.out.1 HP3.out.2.1 1 rfl (by omega))
                clear hk3 hr3 ho3 hu3 HFD HK2
                go_wp2_with fail
                with_reducible refine (HNX.out).mono ?_
                rintro e w4 ⟨KB, kc, D4, q, rfl, hk4, ho4, hq4, hr4, hu4⟩
                have bA := (Below.refl w4.heap.size w4).alloc (Nat.le_refl _) (.cells #[.int .u8 2, .int .i64 1, .slice KB 1 kc, .int .i64 0] 71)
                have HK4 : Hid (LgK w (w4.alloc (.cells #[.int .u8 2, .int .i64 1, .slice KB 1 kc, .int .i64 0] 71)) (some ⟨b, off, none⟩) n c zs w0.heap.size cb rb D4 A' m c' hs (hs.map lgT) (wr.heap.size + 1) (wr.heap.size + 1 + 1) ⟨2, 1, 0, [97 + b2]⟩ (some ⟨wr.heap.size, 0, none⟩) ⟨0, true, 0, 0, 2 * ((k : Int) + 1) + (b2 : Int), 0⟩) := Lib.hid (hk4.below bA)
                have HP4 := Lib.hid (And.intro ho4 (And.intro hq4 (And.intro hr4 (hu4.trans HP3.out.2.2))))
                clear bA hk4 ho4 hq4 hr4 hu4 HNX HK3
                go_upto_region 25 with (fail)
                generalize w4.alloc (.cells #[.int .u8 2, .int .i64 1, .slice KB 1 kc, .int .i64 0] 71) = w5 at HK4 ⊢
                have HRP := Lib.hid (HK4.out.reply q HP4.out.1 HP4.out.2.1 HP4.out.2.2.1 HRO.out (by show 0 < 1; omega) (fun t ht => by obtain ⟨v, _, rfl⟩ := List.mem_map.1 ht; show 0 < 1; omega) (by have := HK4.out.s.len; have := HP.out.2.2.2.1; simp; omega) (by rw [HP4.out.2.2.2]; have := HP.out.2.2.1; omega) (hs.map lgT ++ [⟨1, 2 * ((k : Int) + 1) + (b2 : Int), [97 + b2]⟩]) (after_acq _ _ _))
                have k10 := HK4.out.k10
                have r0 := k10.cell 0 _ rfl
                have r1 := k10.cell 1 _ rfl
                have r2 := k10.cell 2 _ rfl
                have r3 := k10.cell 3 _ rfl
                have r4 := k10.cell 4 _ rfl
                have r5 := k10.cell 5 _ rfl
                have rl := k10.lt
                clear k10
                go_wp2_with fail
                with_reducible refine (HRP.out).mono ?_
                rintro e w6 ⟨D6, rfl, hk6, ho6, hr6, hu6⟩
                have HK6 := Lib.hid hk6
                have HP6 := Lib.hid (And.intro ho6 (And.intro hr6 (hu6.trans (congrArg (· + 38) (congrArg List.length HP4.out.2.2.2)))))
                have k9 := HK6.out.k9
                have k10 := HK6.out.k10
                have a0 := k9.cell 0 _ rfl
                have a3 := k9.cell 3 _ rfl
                have al := k9.lt
                have r0 := k10.cell 0 _ rfl
                have r4 := k10.cell 4 _ rfl
                have rl := k10.lt
                clear hk6 ho6 hr6 hu6 HRP HK4 r1 r2 r3 r5 k9 k10
                obtain ⟨i0', hi0, hz0, hz1, hz2⟩ := info_parts64
                have bl := (Below.refl w6.heap.size w6).alloc (Nat.le_refl _) (.cells #[.int .i64 (2 * ((k : Int) + 1) + (b2 : Int))] 2)
                have HK7 := Lib.hid (HK6.out.below bl)
                have HLIT : Hid (BlkL (w6.alloc (.cells #[.int .i64 (2 * ((k : Int) + 1) + (b2 : Int))] 2)) w6.heap.size [.int .i64 (2 * ((k : Int) + 1) + (b2 : Int))]) := Lib.hid (BlkL.new w6 _ _)
                have hone : ∀ v ∈ ([.int .i64 (2 * ((k : Int) + 1) + (b2 : Int))] : List Value), v.oneCell' = true := by intro v hv; simp at hv; subst hv; rfl
                have HZ7 := Lib.hid HK7.out.s.hB
                have hmm : (m + 1) * 8 ≤ 140737488355328 := by have := HP.out.2.2.2.1; omega
                clear bl
                go_wp2_with (refine wpList_append_v Try.underlying107 hi0 hz0 hz1 hz2 rfl rfl (.tmp 106) (.tmp 109) rfl rfl HK7.out.s.own w6.heap.size 1 1 [.int .i64 (2 * ((k : Int) + 1) + (b2 : Int))] rfl rfl HLIT.out hone (by omega) (by omega) hmm HZ7.out ?_)
                intro A8 c8 w8 ho8 hf8 hb8
                have ho8' : OwnV w8 w0.heap.size A8 (m + 1) c8 ((hs ++ [2 * ((k : Int) + 1) + (b2 : Int)]).map lgI) := by rw [List.map_append]; exact ho8
                have HK8 := Lib.hid (HK7.out.grow ho8' hf8 (fun y hy => (hb8 y hy).imp id (fun e => by simp only [World.size_alloc]; omega)))
                have k9 := HK8.out.k9
                have k10 := HK8.out.k10
                have a0 := k9.cell 0 _ rfl
                have al := k9.lt
                have r0 := k10.cell 0 _ rfl
                have rl := k10.lt
                clear ho8 hf8 hb8 ho8' k9 k10
                have HREL : Hid (LgI w w0.heap.size cb rb (some ⟨b, off, none⟩) n c zs (.slice A8 (m + 1) c8) (.int .i64 ((k + 1 : Nat) : Int)) (.int .i64 ((i + 1 : Nat) : Int)) w8) := Lib.hid (by
                  have hpr := HP.out
                  refine ⟨i + 1, k + 1, m + 1, c8, A8, D6, hs ++ [2 * ((k : Int) + 1) + (b2 : Int)], by omega, by omega, rfl, rfl, rfl, by omega, ?_, HP6.out.2.1, HP6.out.1, by rw [HP6.out.2.2]; have := hpr.2.2.1; omega, by have := hpr.2.2.2.1; omega, fun v hv => ?_, HK8.out.bw, HK8.out.sa⟩
                  · have e : (hs ++ [2 * ((k : Int) + 1) + (b2 : Int)]).map lgT = hs.map lgT ++ [⟨1, 2 * ((k : Int) + 1) + (b2 : Int), [97 + b2]⟩] := by
                      rw [List.map_append]; congr 1
                      simp only [List.map_cons, List.map_nil, lgT]
                      have : ((2 * ((k : Int) + 1) + (b2 : Int)) % 2).toNat = b2 := by omega
                      rw [this]
                    rw [e]; exact HK8.out.s
                  · rcases List.mem_append.1 hv with g | g
                    · exact hpr.2.2.2.2 v g
                    · simp at g; subst g; omega)
                go_wp2
                go_roundw
                case rel => have := HREL.out; simpa using this
                case measure => simp [intOf]; omega
            · have dm : ((m : Int) == 0) = false := beq_eq_false_iff_ne.2 (by omega)
              have hm1 : 0 < m := by omega
              obtain ⟨hb, ho, hA, _, _, hcell2, _⟩ := HG.out.own.cell hm1
              subst hA
              obtain ⟨s8, hs8⟩ : ∃ s8 : Nat, s / 8 = s8 := ⟨_, rfl⟩
              have u8 : Int.tdiv (s : Int) 8 = (s8 : Int) := by rw [Int.tdiv_eq_ediv_of_nonneg (by omega)]; omega
              have hs8' : s8 < 32 := by omega
              obtain ⟨ix, hix⟩ : ∃ ix : Nat, s8 % m = ix := ⟨_, rfl⟩
              have hixm : ix < m := by rw [← hix]; exact Nat.mod_lt _ hm1
              have u9 : Int.tmod (s8 : Int) (m : Int) = (ix : Int) := by rw [Int.tmod_eq_emod_of_nonneg (by omega), ← hix]; exact (Int.natCast_emod s8 m).symm
              obtain ⟨N, hN⟩ : ∃ N, hs.getD ix 0 = N := ⟨_, rfl⟩
              have hil : ix < hs.length := by rw [HG.out.len]; exact hixm
              have hNm : N ∈ hs := by rw [← hN, List.getD_eq_getElem?_getD, List.getElem?_eq_getElem hil]; exact List.getElem_mem _
              have hNb := HP.out.2.2.2.2 N hNm
              have e5 : wr.cell? ⟨hb, ho + ix, none⟩ = some (.int .i64 N) := hcell2 ix _ (by rw [List.getElem?_map, List.getElem?_eq_getElem hil]; simp only [Option.map_some, lgI]; rw [← hN, List.getD_eq_getElem?_getD, List.getElem?_eq_getElem hil]; rfl)
              have lhb : hb < wr.heap.size := (HG.out.own.lt hb (by simp [bkV])).2
              obtain ⟨p2, hp2⟩ : ∃ p2 : Nat, N % 2 = (p2 : Int) := ⟨(N % 2).toNat, by omega⟩
              have v2 : Int.tmod N 2 = (p2 : Int) := by rw [Int.tmod_eq_emod_of_nonneg (by omega)]; exact hp2
              have p20 : (0 : Int) ≤ (p2 : Int) := by omega
              have p21 : (p2 : Int) < 2 := by omega
              have n0 : (2 : Int) ≤ N := hNb.1
              have n1 : N ≤ 200 := hNb.2
              have ix0 : (0 : Int) ≤ (ix : Int) := by omega
              have ix1 : (ix : Int) < (m : Int) := by omega
              have mm0 : (m : Int) ≠ 0 := by omega
              have mm1 : (m : Int) ≤ 80 := by have := HP.out.2.2.2.1; omega
              have mm2 : (0 : Int) < (m : Int) := by omega
              have s80 : (0 : Int) ≤ (s8 : Int) := by omega
              have s81 : (s8 : Int) < 32 := by omega
              have hb1 := (Below.refl wr.heap.size wr).alloc (Nat.le_refl _) (.cells #[.int .u8 (97 + (b2 : Int))] 5)
              have hbz : Below wr.heap.size wr (((wr.alloc (.cells #[.int .u8 (97 + (b2 : Int))] 5)).alloc (.cells #[.int .u8 2, .int .i64 1, .slice (some ⟨wr.heap.size, 0, none⟩) 1 1, .int .i64 0] 71)).alloc (.cells #[.int .i64 0, .bool false, .int .i64 0, .int .i64 0, .int .i64 0, .int .i64 0] 82)) := ((hb1.alloc (by simp) _).alloc (by simp; omega) _)
              have e6 : ((((wr.alloc (.cells #[.int .u8 (97 + (b2 : Int))] 5)).alloc (.cells #[.int .u8 2, .int .i64 1, .slice (some ⟨wr.heap.size, 0, none⟩) 1 1, .int .i64 0] 71)).alloc (.cells #[.int .i64 0, .bool false, .int .i64 0, .int .i64 0, .int .i64 0, .int .i64 0] 82))).cell? ⟨hb, ho + ix, none⟩ = some (.int .i64 N) := (hbz.cell (p := ⟨hb, ho + ix, none⟩) lhb).trans e5
              have HBZ := Lib.hid hbz
              clear hb1 hbz e5
              have HN := Lib.hid (And.intro hNm (And.intro hp2 hm1))
              clear hs8 hix hN hil hNm hNb hcell2 hp2 hm0 hm1
              by_cases h16 : s % 16 = 5
              · have t16 : Int.tmod (s : Int) 16 = 5 := by rw [Int.tmod_eq_emod_of_nonneg (by omega)]; omega
                go_upto_region 22 with (fail)
                have HX : Hid (rqC (3 : Nat) 1 N 1 = 0 ∧ usedV (⟨3, 1, N, [97 + p2]⟩ : ClV) = (⟨3, 1, N, [97 + p2]⟩ : ClV)) := Lib.hid ⟨by simp [rqC, polB, serB]; omega, rfl⟩
                have HRO : Hid (RpV.ok ⟨11, false, 0, 0, 0, 0⟩ = true) := Lib.hid (by decide)
                have hb1 := (Below.refl wr.heap.size wr).alloc (Nat.le_refl _) (.cells #[.int .u8 (97 + (b2 : Int))] 5)
                have hbz : Below wr.heap.size wr ((((wr.alloc (.cells #[.int .u8 (97 + (b2 : Int))] 5)).alloc (.cells #[.int .u8 3, .int .i64 1, .slice (some ⟨(wr.heap.size + 1 + 1 + 1), 0, none⟩) 1 1, .int .i64 N] 71)).alloc (.cells #[.int .i64 11, .bool false, .int .i64 0, .int .i64 0, .int .i64 0, .int .i64 0] 82)).alloc (.cells #[.int .u8 (97 + (p2 : Int))] 5)) := (((hb1.alloc (by simp) _).alloc (by simp; omega) _).alloc (by simp; omega) _)
                have HK : Hid (LgK w ((((wr.alloc (.cells #[.int .u8 (97 + (b2 : Int))] 5)).alloc (.cells #[.int .u8 3, .int .i64 1, .slice (some ⟨(wr.heap.size + 1 + 1 + 1), 0, none⟩) 1 1, .int .i64 N] 71)).alloc (.cells #[.int .i64 11, .bool false, .int .i64 0, .int .i64 0, .int .i64 0, .int .i64 0] 82)).alloc (.cells #[.int .u8 (97 + (p2 : Int))] 5)) (some ⟨b, off, none⟩) n c zs w0.heap.size cb rb D (some ⟨hb, ho, none⟩) m c' hs (hs.map lgT) (wr.heap.size + 1) (wr.heap.size + 1 + 1) ⟨3, 1, N, [97 + p2]⟩ (some ⟨(wr.heap.size + 1 + 1 + 1), 0, none⟩) ⟨11, false, 0, 0, 0, 0⟩) := Lib.hid (by
                  have hs' := HG.out.below hbz
                  refine ⟨hs', HBW.out.trans (hbz.mono HBW.out.size), HB0S.out, HAR.out.below (hbz.mono HBW.out.size), ?_, ?_, fun e => ?_, fun e => ?_, fun e => ?_, fun e => ?_⟩
                  · have := ((BlkL.new (wr.alloc (.cells #[.int .u8 (97 + (b2 : Int))] 5)) [.int .u8 3, .int .i64 1, .slice (some ⟨(wr.heap.size + 1 + 1 + 1), 0, none⟩) 1 1, .int .i64 N] 71).alloc (.cells #[.int .i64 11, .bool false, .int .i64 0, .int .i64 0, .int .i64 0, .int .i64 0] 82)).alloc (.cells #[.int .u8 (97 + (p2 : Int))] 5)
                    simpa using this
                  · have := (BlkL.new ((wr.alloc (.cells #[.int .u8 (97 + (b2 : Int))] 5)).alloc (.cells #[.int .u8 3, .int .i64 1, .slice (some ⟨(wr.heap.size + 1 + 1 + 1), 0, none⟩) 1 1, .int .i64 N] 71)) [.int .i64 11, .bool false, .int .i64 0, .int .i64 0, .int .i64 0, .int .i64 0] 82).alloc (.cells #[.int .u8 (97 + (p2 : Int))] 5)
                    simpa using this
                  · have := (HG.out.cn.lt _ e).2; omega
                  · have := (HG.out.cn.lt _ e).2; omega
                  · have := (HG.out.own.lt _ e).2; omega
                  · have := (HG.out.own.lt _ e).2; omega)
                have HAK : Hid (Arg ((((wr.alloc (.cells #[.int .u8 (97 + (b2 : Int))] 5)).alloc (.cells #[.int .u8 3, .int .i64 1, .slice (some ⟨(wr.heap.size + 1 + 1 + 1), 0, none⟩) 1 1, .int .i64 N] 71)).alloc (.cells #[.int .i64 11, .bool false, .int .i64 0, .int .i64 0, .int .i64 0, .int .i64 0] 82)).alloc (.cells #[.int .u8 (97 + (p2 : Int))] 5)) ((((wr.alloc (.cells #[.int .u8 (97 + (b2 : Int))] 5)).alloc (.cells #[.int .u8 3, .int .i64 1, .slice (some ⟨(wr.heap.size + 1 + 1 + 1), 0, none⟩) 1 1, .int .i64 N] 71)).alloc (.cells #[.int .i64 11, .bool false, .int .i64 0, .int .i64 0, .int .i64 0, .int .i64 0] 82)).alloc (.cells #[.int .u8 (97 + (p2 : Int))] 5)).heap.size (some ⟨(wr.heap.size + 1 + 1 + 1), 0, none⟩) 1 1 [97 + p2]) := Lib.hid (by
                  have := lit1 (((wr.alloc (.cells #[.int .u8 (97 + (b2 : Int))] 5)).alloc (.cells #[.int .u8 3, .int .i64 1, .slice (some ⟨(wr.heap.size + 1 + 1 + 1), 0, none⟩) 1 1, .int .i64 N] 71)).alloc (.cells #[.int .i64 11, .bool false, .int .i64 0, .int .i64 0, .int .i64 0, .int .i64 0] 82)) (97 + p2) (0, 0) (by omega)
                  exact (show Arg ((((wr.alloc (.cells #[.int .u8 (97 + (b2 : Int))] 5)).alloc (.cells #[.int .u8 3, .int .i64 1, .slice (some ⟨(wr.heap.size + 1 + 1 + 1), 0, none⟩) 1 1, .int .i64 N] 71)).alloc (.cells #[.int .i64 11, .bool false, .int .i64 0, .int .i64 0, .int .i64 0, .int .i64 0] 82)).alloc (.cells #[.int .u8 (97 + (p2 : Int))] 5)) (wr.heap.size + 1 + 1 + 1 + 1) (some ⟨(wr.heap.size + 1 + 1 + 1), 0, none⟩) 1 1 [97 + p2] from by simpa using this).more (by simp))
                clear hb1 hbz
                generalize ((((wr.alloc (.cells #[.int .u8 (97 + (b2 : Int))] 5)).alloc (.cells #[.int .u8 3, .int .i64 1, .slice (some ⟨(wr.heap.size + 1 + 1 + 1), 0, none⟩) 1 1, .int .i64 N] 71)).alloc (.cells #[.int .i64 11, .bool false, .int .i64 0, .int .i64 0, .int .i64 0, .int .i64 0] 82)).alloc (.cells #[.int .u8 (97 + (p2 : Int))] 5)) = wz at HK HAK ⊢
                obtain ⟨fl, hfl⟩ : ∃ fl, (rqF ⟨3, 1, N, [97 + p2]⟩).length = fl := ⟨_, rfl⟩
                have HRQ : Hid (Calls Try.prog 59 #[.agg #[.int .u8 3, .int .i64 1, .slice (some ⟨(wr.heap.size + 1 + 1 + 1), 0, none⟩) 1 1, .int .i64 N]] wz fun e w' => ∃ XA xc, e = .returned (.slice XA fl xc) ∧ OwnV w' wz.heap.size XA fl xc ((rqF ⟨3, 1, N, [97 + p2]⟩).map V8) ∧ (∀ d ∈ rqF ⟨3, 1, N, [97 + p2]⟩, d < 256) ∧ Below wz.heap.size wz w') := Lib.hid (by
                  refine (req_any wz wz.heap.size ⟨3, 1, N, [97 + p2]⟩ (some ⟨(wr.heap.size + 1 + 1 + 1), 0, none⟩) 1 1 HAK.out (Nat.le_refl _)).mono ?_
                  rintro e w' ⟨XA, xc, g1, g2, g3, _, g5⟩
                  rw [hfl] at g1 g2
                  exact ⟨XA, xc, g1, g2, g3, g5⟩)
                have HFL := Lib.hid hfl
                clear hfl
                have k9 := HK.out.k9
                have a0 := k9.cell 0 _ rfl
                have a1 := k9.cell 1 _ rfl
                have a2 := k9.cell 2 _ rfl
                have a3 := k9.cell 3 _ rfl
                have al := k9.lt
                clear k9
                go_wp2_with fail
                with_reducible refine (HRQ.out).mono ?_
                rintro e w2 ⟨XA, xc, rfl, ho, hby, hb2⟩
                have HK2 := Lib.hid (HK.out.below hb2)
                have HFD := Lib.hid (HK2.out.feed HP.out.1 HP.out.2.1 (by have := HX.out; exact this.1) HX.out.2 XA fl xc (ho.arg' hby))
                clear ho hby hb2 HRQ HK HAK a0 a1 a2 a3 al
                go_wp2_with fail
                with_reducible refine (HFD.out).mono ?_
                rintro e w3 ⟨D3, rfl, hk3, hr3, ho3, hu3⟩
                have HK3 := Lib.hid hk3
                have HP3 := Lib.hid (And.intro hr3 (And.intro ho3 hu3))
                have HNX := Lib.hid (HK3.out.next HP3.out.1 HP3.out.2.1 1 rfl (by omega))
                clear hk3 hr3 ho3 hu3 HFD HK2
                go_wp2_with fail
                with_reducible refine (HNX.out).mono ?_
                rintro e w4 ⟨KB, kc, D4, q, rfl, hk4, ho4, hq4, hr4, hu4⟩
                have bA := (Below.refl w4.heap.size w4).alloc (Nat.le_refl _) (.cells #[.int .u8 3, .int .i64 1, .slice KB 1 kc, .int .i64 N] 71)
                have HK4 : Hid (LgK w (w4.alloc (.cells #[.int .u8 3, .int .i64 1, .slice KB 1 kc, .int .i64 N] 71)) (some ⟨b, off, none⟩) n c zs w0.heap.size cb rb D4 (some ⟨hb, ho, none⟩) m c' hs (hs.map lgT) (wr.heap.size + 1) (wr.heap.size + 1 + 1) ⟨3, 1, N, [97 + p2]⟩ (some ⟨(wr.heap.size + 1 + 1 + 1), 0, none⟩) ⟨11, false, 0, 0, 0, 0⟩) := Lib.hid (hk4.below bA)
                have HP4 := Lib.hid (And.intro ho4 (And.intro hq4 (And.intro hr4 (hu4.trans HP3.out.2.2))))
                clear bA hk4 ho4 hq4 hr4 hu4 HNX HK3
                go_upto_region 25 with (fail)
                generalize w4.alloc (.cells #[.int .u8 3, .int .i64 1, .slice KB 1 kc, .int .i64 N] 71) = w5 at HK4 ⊢
                have HRP := Lib.hid (HK4.out.reply q HP4.out.1 HP4.out.2.1 HP4.out.2.2.1 HRO.out (by show 0 < 1; omega) (fun t ht => by obtain ⟨v, _, rfl⟩ := List.mem_map.1 ht; show 0 < 1; omega) (by have := HK4.out.s.len; have := HP.out.2.2.2.1; simp; omega) (by rw [HP4.out.2.2.2]; have := HP.out.2.2.1; omega) (hs.map lgT) (after_no _ _ _ _ (by decide)))
                have k10 := HK4.out.k10
                have r0 := k10.cell 0 _ rfl
                have r1 := k10.cell 1 _ rfl
                have r2 := k10.cell 2 _ rfl
                have r3 := k10.cell 3 _ rfl
                have r4 := k10.cell 4 _ rfl
                have r5 := k10.cell 5 _ rfl
                have rl := k10.lt
                clear k10
                go_wp2_with fail
                with_reducible refine (HRP.out).mono ?_
                rintro e w6 ⟨D6, rfl, hk6, ho6, hr6, hu6⟩
                have HK6 := Lib.hid hk6
                have HP6 := Lib.hid (And.intro ho6 (And.intro hr6 (hu6.trans (congrArg (· + 38) (congrArg List.length HP4.out.2.2.2)))))
                have k9 := HK6.out.k9
                have k10 := HK6.out.k10
                have a0 := k9.cell 0 _ rfl
                have a3 := k9.cell 3 _ rfl
                have al := k9.lt
                have r0 := k10.cell 0 _ rfl
                have r4 := k10.cell 4 _ rfl
                have rl := k10.lt
                clear hk6 ho6 hr6 hu6 HRP HK4 r1 r2 r3 r5 k9 k10
                have HREL : Hid (LgI w w0.heap.size cb rb (some ⟨b, off, none⟩) n c zs (.slice (some ⟨hb, ho, none⟩) m c') (.int .i64 (k : Nat)) (.int .i64 ((i + 1 : Nat) : Int)) w6) := Lib.hid (by
                  have hpr := HP.out
                  exact ⟨i + 1, k, m, c', some ⟨hb, ho, none⟩, D6, hs, by omega, by omega, rfl, rfl, rfl, by omega, HK6.out.s, HP6.out.2.1, HP6.out.1, by rw [HP6.out.2.2]; have := hpr.2.2.1; omega, by have := hpr.2.2.2.1; omega, hpr.2.2.2.2, HK6.out.bw, HK6.out.sa⟩)
                go_wp2
                go_roundw
                case rel => have := HREL.out; simpa using this
                case measure => simp [intOf]; omega
              · obtain ⟨b16, hb16⟩ : ∃ b16 : Nat, s % 16 = b16 := ⟨_, rfl⟩
                have t16 : Int.tmod (s : Int) 16 = (b16 : Int) := by rw [Int.tmod_eq_emod_of_nonneg (by omega)]; omega
                have d16 : ((b16 : Int) == 5) = false := beq_eq_false_iff_ne.2 (by omega)
                clear hb16 h16
                go_upto_region 22 with (fail)
                have HX : Hid (rqC (3 : Nat) 1 N 1 = 0 ∧ usedV (⟨3, 1, N, [97 + p2]⟩ : ClV) = (⟨3, 1, N, [97 + p2]⟩ : ClV)) := Lib.hid ⟨by simp [rqC, polB, serB]; omega, rfl⟩
                have HRO : Hid (RpV.ok ⟨0, false, 0, 0, 0, 0⟩ = true) := Lib.hid (by decide)
                have hb1 := (Below.refl wr.heap.size wr).alloc (Nat.le_refl _) (.cells #[.int .u8 (97 + (b2 : Int))] 5)
                have hbz : Below wr.heap.size wr ((((wr.alloc (.cells #[.int .u8 (97 + (b2 : Int))] 5)).alloc (.cells #[.int .u8 3, .int .i64 1, .slice (some ⟨(wr.heap.size + 1 + 1 + 1), 0, none⟩) 1 1, .int .i64 N] 71)).alloc (.cells #[.int .i64 0, .bool false, .int .i64 0, .int .i64 0, .int .i64 0, .int .i64 0] 82)).alloc (.cells #[.int .u8 (97 + (p2 : Int))] 5)) := (((hb1.alloc (by simp) _).alloc (by simp; omega) _).alloc (by simp; omega) _)
                have HK : Hid (LgK w ((((wr.alloc (.cells #[.int .u8 (97 + (b2 : Int))] 5)).alloc (.cells #[.int .u8 3, .int .i64 1, .slice (some ⟨(wr.heap.size + 1 + 1 + 1), 0, none⟩) 1 1, .int .i64 N] 71)).alloc (.cells #[.int .i64 0, .bool false, .int .i64 0, .int .i64 0, .int .i64 0, .int .i64 0] 82)).alloc (.cells #[.int .u8 (97 + (p2 : Int))] 5)) (some ⟨b, off, none⟩) n c zs w0.heap.size cb rb D (some ⟨hb, ho, none⟩) m c' hs (hs.map lgT) (wr.heap.size + 1) (wr.heap.size + 1 + 1) ⟨3, 1, N, [97 + p2]⟩ (some ⟨(wr.heap.size + 1 + 1 + 1), 0, none⟩) ⟨0, false, 0, 0, 0, 0⟩) := Lib.hid (by
                  have hs' := HG.out.below hbz
                  refine ⟨hs', HBW.out.trans (hbz.mono HBW.out.size), HB0S.out, HAR.out.below (hbz.mono HBW.out.size), ?_, ?_, fun e => ?_, fun e => ?_, fun e => ?_, fun e => ?_⟩
                  · have := ((BlkL.new (wr.alloc (.cells #[.int .u8 (97 + (b2 : Int))] 5)) [.int .u8 3, .int .i64 1, .slice (some ⟨(wr.heap.size + 1 + 1 + 1), 0, none⟩) 1 1, .int .i64 N] 71).alloc (.cells #[.int .i64 0, .bool false, .int .i64 0, .int .i64 0, .int .i64 0, .int .i64 0] 82)).alloc (.cells #[.int .u8 (97 + (p2 : Int))] 5)
                    simpa using this
                  · have := (BlkL.new ((wr.alloc (.cells #[.int .u8 (97 + (b2 : Int))] 5)).alloc (.cells #[.int .u8 3, .int .i64 1, .slice (some ⟨(wr.heap.size + 1 + 1 + 1), 0, none⟩) 1 1, .int .i64 N] 71)) [.int .i64 0, .bool false, .int .i64 0, .int .i64 0, .int .i64 0, .int .i64 0] 82).alloc (.cells #[.int .u8 (97 + (p2 : Int))] 5)
                    simpa using this
                  · have := (HG.out.cn.lt _ e).2; omega
                  · have := (HG.out.cn.lt _ e).2; omega
                  · have := (HG.out.own.lt _ e).2; omega
                  · have := (HG.out.own.lt _ e).2; omega)
                have HAK : Hid (Arg ((((wr.alloc (.cells #[.int .u8 (97 + (b2 : Int))] 5)).alloc (.cells #[.int .u8 3, .int .i64 1, .slice (some ⟨(wr.heap.size + 1 + 1 + 1), 0, none⟩) 1 1, .int .i64 N] 71)).alloc (.cells #[.int .i64 0, .bool false, .int .i64 0, .int .i64 0, .int .i64 0, .int .i64 0] 82)).alloc (.cells #[.int .u8 (97 + (p2 : Int))] 5)) ((((wr.alloc (.cells #[.int .u8 (97 + (b2 : Int))] 5)).alloc (.cells #[.int .u8 3, .int .i64 1, .slice (some ⟨(wr.heap.size + 1 + 1 + 1), 0, none⟩) 1 1, .int .i64 N] 71)).alloc (.cells #[.int .i64 0, .bool false, .int .i64 0, .int .i64 0, .int .i64 0, .int .i64 0] 82)).alloc (.cells #[.int .u8 (97 + (p2 : Int))] 5)).heap.size (some ⟨(wr.heap.size + 1 + 1 + 1), 0, none⟩) 1 1 [97 + p2]) := Lib.hid (by
                  have := lit1 (((wr.alloc (.cells #[.int .u8 (97 + (b2 : Int))] 5)).alloc (.cells #[.int .u8 3, .int .i64 1, .slice (some ⟨(wr.heap.size + 1 + 1 + 1), 0, none⟩) 1 1, .int .i64 N] 71)).alloc (.cells #[.int .i64 0, .bool false, .int .i64 0, .int .i64 0, .int .i64 0, .int .i64 0] 82)) (97 + p2) (0, 0) (by omega)
                  exact (show Arg ((((wr.alloc (.cells #[.int .u8 (97 + (b2 : Int))] 5)).alloc (.cells #[.int .u8 3, .int .i64 1, .slice (some ⟨(wr.heap.size + 1 + 1 + 1), 0, none⟩) 1 1, .int .i64 N] 71)).alloc (.cells #[.int .i64 0, .bool false, .int .i64 0, .int .i64 0, .int .i64 0, .int .i64 0] 82)).alloc (.cells #[.int .u8 (97 + (p2 : Int))] 5)) (wr.heap.size + 1 + 1 + 1 + 1) (some ⟨(wr.heap.size + 1 + 1 + 1), 0, none⟩) 1 1 [97 + p2] from by simpa using this).more (by simp))
                clear hb1 hbz
                generalize ((((wr.alloc (.cells #[.int .u8 (97 + (b2 : Int))] 5)).alloc (.cells #[.int .u8 3, .int .i64 1, .slice (some ⟨(wr.heap.size + 1 + 1 + 1), 0, none⟩) 1 1, .int .i64 N] 71)).alloc (.cells #[.int .i64 0, .bool false, .int .i64 0, .int .i64 0, .int .i64 0, .int .i64 0] 82)).alloc (.cells #[.int .u8 (97 + (p2 : Int))] 5)) = wz at HK HAK ⊢
                obtain ⟨fl, hfl⟩ : ∃ fl, (rqF ⟨3, 1, N, [97 + p2]⟩).length = fl := ⟨_, rfl⟩
                have HRQ : Hid (Calls Try.prog 59 #[.agg #[.int .u8 3, .int .i64 1, .slice (some ⟨(wr.heap.size + 1 + 1 + 1), 0, none⟩) 1 1, .int .i64 N]] wz fun e w' => ∃ XA xc, e = .returned (.slice XA fl xc) ∧ OwnV w' wz.heap.size XA fl xc ((rqF ⟨3, 1, N, [97 + p2]⟩).map V8) ∧ (∀ d ∈ rqF ⟨3, 1, N, [97 + p2]⟩, d < 256) ∧ Below wz.heap.size wz w') := Lib.hid (by
                  refine (req_any wz wz.heap.size ⟨3, 1, N, [97 + p2]⟩ (some ⟨(wr.heap.size + 1 + 1 + 1), 0, none⟩) 1 1 HAK.out (Nat.le_refl _)).mono ?_
                  rintro e w' ⟨XA, xc, g1, g2, g3, _, g5⟩
                  rw [hfl] at g1 g2
                  exact ⟨XA, xc, g1, g2, g3, g5⟩)
                have HFL := Lib.hid hfl
                clear hfl
                have k9 := HK.out.k9
                have a0 := k9.cell 0 _ rfl
                have a1 := k9.cell 1 _ rfl
                have a2 := k9.cell 2 _ rfl
                have a3 := k9.cell 3 _ rfl
                have al := k9.lt
                clear k9
                go_wp2_with fail
                with_reducible refine (HRQ.out).mono ?_
                rintro e w2 ⟨XA, xc, rfl, ho, hby, hb2⟩
                have HK2 := Lib.hid (HK.out.below hb2)
                have HFD := Lib.hid (HK2.out.feed HP.out.1 HP.out.2.1 (by have := HX.out; exact this.1) HX.out.2 XA fl xc (ho.arg' hby))
                clear ho hby hb2 HRQ HK HAK a0 a1 a2 a3 al
                go_wp2_with fail
                with_reducible refine (HFD.out).mono ?_
                rintro e w3 ⟨D3, rfl, hk3, hr3, ho3, hu3⟩
                have HK3 := Lib.hid hk3
                have HP3 := Lib.hid (And.intro hr3 (And.intro ho3 hu3))
                have HNX := Lib.hid (HK3.out.next HP3.out.1 HP3.out.2.1 1 rfl (by omega))
                clear hk3 hr3 ho3 hu3 HFD HK2
                go_wp2_with fail
                with_reducible refine (HNX.out).mono ?_
                rintro e w4 ⟨KB, kc, D4, q, rfl, hk4, ho4, hq4, hr4, hu4⟩
                have bA := (Below.refl w4.heap.size w4).alloc (Nat.le_refl _) (.cells #[.int .u8 3, .int .i64 1, .slice KB 1 kc, .int .i64 N] 71)
                have HK4 : Hid (LgK w (w4.alloc (.cells #[.int .u8 3, .int .i64 1, .slice KB 1 kc, .int .i64 N] 71)) (some ⟨b, off, none⟩) n c zs w0.heap.size cb rb D4 (some ⟨hb, ho, none⟩) m c' hs (hs.map lgT) (wr.heap.size + 1) (wr.heap.size + 1 + 1) ⟨3, 1, N, [97 + p2]⟩ (some ⟨(wr.heap.size + 1 + 1 + 1), 0, none⟩) ⟨0, false, 0, 0, 0, 0⟩) := Lib.hid (hk4.below bA)
                have HP4 := Lib.hid (And.intro ho4 (And.intro hq4 (And.intro hr4 (hu4.trans HP3.out.2.2))))
                clear bA hk4 ho4 hq4 hr4 hu4 HNX HK3
                go_upto_region 25 with (fail)
                generalize w4.alloc (.cells #[.int .u8 3, .int .i64 1, .slice KB 1 kc, .int .i64 N] 71) = w5 at HK4 ⊢
                have HRP := Lib.hid (HK4.out.reply q HP4.out.1 HP4.out.2.1 HP4.out.2.2.1 HRO.out (by show 0 < 1; omega) (fun t ht => by obtain ⟨v, _, rfl⟩ := List.mem_map.1 ht; show 0 < 1; omega) (by have := HK4.out.s.len; have := HP.out.2.2.2.1; simp; omega) (by rw [HP4.out.2.2.2]; have := HP.out.2.2.1; omega) ((hs.filter (fun v => !decide (v = N))).map lgT) (by have e := after_rel hs N 0; rw [show (N % 2).toNat = p2 from by have := HN.out.2.1; omega] at e; exact e))
                have k10 := HK4.out.k10
                have r0 := k10.cell 0 _ rfl
                have r1 := k10.cell 1 _ rfl
                have r2 := k10.cell 2 _ rfl
                have r3 := k10.cell 3 _ rfl
                have r4 := k10.cell 4 _ rfl
                have r5 := k10.cell 5 _ rfl
                have rl := k10.lt
                clear k10
                go_wp2_with fail
                with_reducible refine (HRP.out).mono ?_
                rintro e w6 ⟨D6, rfl, hk6, ho6, hr6, hu6⟩
                have HK6 := Lib.hid hk6
                have HP6 := Lib.hid (And.intro ho6 (And.intro hr6 (hu6.trans (congrArg (· + 38) (congrArg List.length HP4.out.2.2.2)))))
                have k9 := HK6.out.k9
                have k10 := HK6.out.k10
                have a0 := k9.cell 0 _ rfl
                have a3 := k9.cell 3 _ rfl
                have al := k9.lt
                have r0 := k10.cell 0 _ rfl
                have r4 := k10.cell 4 _ rfl
                have rl := k10.lt
                clear hk6 ho6 hr6 hu6 HRP HK4 r1 r2 r3 r5 k9 k10
                have HST2 : Hid (∃ (j m2 c2 : Nat) (A2 : Option Addr) (l2 : List Int), j ≤ m ∧ (.int .i64 0 : Value) = .int .i64 (j : Int) ∧ (.slice none 0 0 : Value) = .slice A2 m2 c2 ∧ LgL w w6 (some ⟨b, off, none⟩) n c zs w0.heap.size cb rb D6 (some ⟨hb, ho, none⟩) m c' hs ((hs.filter (fun v => !decide (v = N))).map lgT) (wr.heap.size + 1) (wr.heap.size + 1 + 1) ⟨3, 1, N, [97 + p2]⟩ (some ⟨(wr.heap.size + 1 + 1 + 1), 0, none⟩) ⟨0, false, 0, 0, 0, 0⟩ A2 m2 c2 l2 ∧ l2 = (hs.take j).filter (fun v => !decide (v = N))) := Lib.hid ⟨0, 0, 0, none, [], Nat.zero_le _, rfl, rfl, HK6.out.two, by simp⟩
                have HMM := Lib.hid (And.intro HP.out.2.2.2.1 HG.out.len)
                clear HK6
                go_wp2_with fail
                go_loopw [14, 121] (fun lv jv wq => ∃ (j m2 c2 : Nat) (A2 : Option Addr) (l2 : List Int), j ≤ m ∧ jv = .int .i64 (j : Int) ∧ lv = .slice A2 m2 c2 ∧ LgL w wq (some ⟨b, off, none⟩) n c zs w0.heap.size cb rb D6 (some ⟨hb, ho, none⟩) m c' hs ((hs.filter (fun v => !decide (v = N))).map lgT) (wr.heap.size + 1) (wr.heap.size + 1 + 1) ⟨3, 1, N, [97 + p2]⟩ (some ⟨(wr.heap.size + 1 + 1 + 1), 0, none⟩) ⟨0, false, 0, 0, 0, 0⟩ A2 m2 c2 l2 ∧ l2 = (hs.take j).filter (fun v => !decide (v = N))) (fun _ jv _ => m - (intOf jv).toNat)
                case atStart => exact HST2.out
                case round =>
                  obtain ⟨j, m2, c2, A2, l2, hj, rfl, rfl, hL, hl2⟩ := hrel
                  have HL := Lib.hid hL
                  have HL2 := Lib.hid hl2
                  have hwr2 := hL.k.bw.size
                  clear hL hl2 HST2 a0 a3 al r0 r4 rl
                  rename World => wq
                  rcases Nat.lt_or_ge j m with hjm | hjm
                  · obtain ⟨hb', ho', hA2, _, lhb2, hcell3, _⟩ := HL.out.k.s.own.cell (by omega)
                    cases hA2
                    have hjl : j < hs.length := by rw [HMM.out.2]; exact hjm
                    obtain ⟨v, hv⟩ : ∃ v, hs.getD j 0 = v := ⟨_, rfl⟩
                    have e7 : wq.cell? ⟨hb, ho + j, none⟩ = some (.int .i64 v) := hcell3 j _ (by rw [List.getElem?_map, List.getElem?_eq_getElem hjl]; simp only [Option.map_some, lgI]; rw [← hv, List.getD_eq_getElem?_getD, List.getElem?_eq_getElem hjl]; rfl)
                    have k9 := HL.out.k.k9
                    have a3 := k9.cell 3 _ rfl
                    have al := k9.lt
                    have j0 : (0 : Int) ≤ (j : Int) := by omega
                    have j1 : (j : Int) < (m : Int) := by omega
                    have htk : hs.take (j + 1) = hs.take j ++ [v] := by
                      rw [List.take_add_one, List.getElem?_eq_getElem hjl, ← hv, List.getD_eq_getElem?_getD, List.getElem?_eq_getElem hjl]; rfl
                    have HTK := Lib.hid htk
                    clear hcell3 k9 htk hv hjl
                    by_cases hvN : v = N
                    · have dv : (v != N) = false := by simp [hvN]
                      have HRL : Hid (∃ (j2 m2' c2' : Nat) (A2' : Option Addr) (l2' : List Int), j2 ≤ m ∧ (.int .i64 ((j + 1 : Nat) : Int) : Value) = .int .i64 (j2 : Int) ∧ (.slice A2 m2 c2 : Value) = .slice A2' m2' c2' ∧ LgL w wq (some ⟨b, off, none⟩) n c zs w0.heap.size cb rb D6 (some ⟨hb, ho, none⟩) m c' hs ((hs.filter (fun v => !decide (v = N))).map lgT) (wr.heap.size + 1) (wr.heap.size + 1 + 1) ⟨3, 1, N, [97 + p2]⟩ (some ⟨(wr.heap.size + 1 + 1 + 1), 0, none⟩) ⟨0, false, 0, 0, 0, 0⟩ A2' m2' c2' l2' ∧ l2' = (hs.take j2).filter (fun v => !decide (v = N))) := Lib.hid ⟨j + 1, m2, c2, A2, l2, by omega, rfl, rfl, HL.out, by rw [HTK.out, List.filter_append, ← HL2.out]; simp [hvN]⟩
                      clear hvN
                      go_wp2
                      go_roundw
                      case rel => have := HRL.out; simpa using this
                      case measure => simp [intOf]; omega
                    · have dv : (v != N) = true := by simpa using hvN
                      obtain ⟨i0', hi0, hz0, hz1, hz2⟩ := info_parts64
                      have bl := (Below.refl wq.heap.size wq).alloc (Nat.le_refl _) (.cells #[.int .i64 v] 2)
                      have HL7 := Lib.hid (HL.out.below bl)
                      have HLIT : Hid (BlkL (wq.alloc (.cells #[.int .i64 v] 2)) wq.heap.size [.int .i64 v]) := Lib.hid (BlkL.new wq _ _)
                      have hone : ∀ u ∈ ([.int .i64 v] : List Value), u.oneCell' = true := by intro u hu; simp at hu; subst hu; rfl
                      have HZ7 := Lib.hid HL7.out.k.s.hB
                      have hml : m2 ≤ j := by
                        have h1 := HL.out.own2.len
                        rw [List.length_map, HL2.out] at h1
                        have h2 := List.length_filter_le (fun v => !decide (v = N)) (hs.take j)
                        rw [List.length_take] at h2
                        omega
                      have hmm : (m2 + 1) * 8 ≤ 140737488355328 := by have := HMM.out.1; omega
                      have HVN := Lib.hid hvN
                      clear bl hvN
                      go_wp2_with (refine wpList_append_v Try.underlying107 hi0 hz0 hz1 hz2 rfl rfl (.tmp 129) (.tmp 131) rfl rfl HL7.out.own2 wq.heap.size 1 1 [.int .i64 v] rfl rfl HLIT.out hone (by omega) (by omega) hmm HZ7.out ?_)
                      intro A8 c8 w8 ho8 hf8 hb8
                      have ho8' : OwnV w8 w0.heap.size A8 (m2 + 1) c8 ((l2 ++ [v]).map lgI) := by rw [List.map_append]; exact ho8
                      have HRL : Hid (∃ (j2 m2' c2' : Nat) (A2' : Option Addr) (l2' : List Int), j2 ≤ m ∧ (.int .i64 ((j + 1 : Nat) : Int) : Value) = .int .i64 (j2 : Int) ∧ (.slice A8 (m2 + 1) c8 : Value) = .slice A2' m2' c2' ∧ LgL w w8 (some ⟨b, off, none⟩) n c zs w0.heap.size cb rb D6 (some ⟨hb, ho, none⟩) m c' hs ((hs.filter (fun v => !decide (v = N))).map lgT) (wr.heap.size + 1) (wr.heap.size + 1 + 1) ⟨3, 1, N, [97 + p2]⟩ (some ⟨(wr.heap.size + 1 + 1 + 1), 0, none⟩) ⟨0, false, 0, 0, 0, 0⟩ A2' m2' c2' l2' ∧ l2' = (hs.take j2).filter (fun v => !decide (v = N))) := Lib.hid ⟨j + 1, m2 + 1, c8, A8, l2 ++ [v], by omega, rfl, rfl, HL7.out.grow ho8' hf8 (fun y hy => (hb8 y hy).imp id (fun e => by simp only [World.size_alloc]; omega)), by rw [HTK.out, List.filter_append, ← HL2.out]; simp [HVN.out]⟩
                      clear ho8 hf8 hb8 ho8'
                      go_wp2
                      go_roundw
                      case rel => have := HRL.out; simpa using this
                      case measure => simp [intOf]; omega
                  · obtain rfl : j = m := by omega
                    have j2 : ¬ (j : Int) < (j : Int) := by omega
                    have HREL : Hid (LgI w w0.heap.size cb rb (some ⟨b, off, none⟩) n c zs (.slice A2 m2 c2) (.int .i64 (k : Int)) (.int .i64 ((i + 1 : Nat) : Int)) wq) := Lib.hid (by
                      have hpr := HP.out
                      have e8 : l2 = hs.filter (fun v => !decide (v = N)) := by rw [HL2.out, List.take_of_length_le (by rw [HMM.out.2]; exact Nat.le_refl _)]
                      have h1 := HL.out.own2.len
                      rw [List.length_map, e8] at h1
                      have h2 := List.length_filter_le (fun v => !decide (v = N)) hs
                      have hsw := HL.out.swap
                      rw [← e8] at hsw
                      refine ⟨i + 1, k, m2, c2, A2, D6, l2, by omega, by omega, rfl, rfl, rfl, by omega, hsw, HP6.out.2.1, HP6.out.1, by rw [HP6.out.2.2]; have := hpr.2.2.1; omega, by have := hpr.2.2.2.1; have := HMM.out.2; omega, fun v hv => ?_, HL.out.k.bw, HL.out.k.sa⟩
                      rw [e8] at hv
                      exact hpr.2.2.2.2 v (List.mem_filter.1 hv).1)
                    go_wp2
                    go_roundw
                    case rel => have := HREL.out; simpa using this
                    case measure => simp [intOf]; omega

        · have d80 : decide ((80 : Int) ≤ (i : Int)) = true := decide_eq_true (by omega)
          obtain ⟨b, off, rfl, hbB, hcell⟩ := harg.at_ (by omega)
          have e0 := hcell i h1
          have i0 : (0 : Int) ≤ (i : Int) := by omega
          have i1 : (i : Int) < (n : Int) := by omega
          have HE : Hid (LgF w w0.heap.size cb rb (.slice A' m c') wr) := Lib.hid ⟨m, c', A', D, hs, rfl, HG.out, HP.out.1, HP.out.2.1, by have := HP.out.2.2.2.1; omega, HP.out.2.2.2.2, HBW.out⟩
          clear hcell harg
          go_wp2_with fail
          go_meet
          exact HE.out
      · obtain rfl : i = n := by omega
        have j1 : ¬ (i : Int) < (i : Int) := by omega
        have HE : Hid (LgF w w0.heap.size cb rb (.slice A' m c') wr) := Lib.hid ⟨m, c', A', D, hs, rfl, HG.out, HP.out.1, HP.out.2.1, by have := HP.out.2.2.2.1; omega, HP.out.2.2.2.2, HBW.out⟩
        go_wp2_with fail
        go_meet
        exact HE.out
  case rest =>
    obtain ⟨m, c', A', D, hs, rfl, hg, hrow, hob, hm80, hss, hbw⟩ := hcut
    have HP := Lib.hid (And.intro hrow (And.intro hob (And.intro hm80 hss)))
    have HG := Lib.hid hg
    have HBW := Lib.hid hbw
    have HTK := Lib.hid (lg_take wc w0.heap.size cb D hg.cn _ rfl)
    have hlm : (hs.map lgT).length = m := by rw [List.length_map]; exact hg.len
    have hks : ∀ t ∈ hs.map lgT, t.ks.length ≤ 1000 := fun t ht => by obtain ⟨v, _, rfl⟩ := List.mem_map.1 ht; show 1 ≤ 1000; omega
    have HLM := Lib.hid (And.intro hlm hks)
    obtain ⟨ul, hul⟩ : ∃ ul, D.us.length = ul := ⟨_, rfl⟩
    rw [hul] at HTK
    clear hg hrow hob hss hbw hlm hks HST hul
    go_wp2_with fail
    with_reducible refine (HTK.out).mono ?_
    rintro e w2 ⟨⟨A2, c2, D2, rfl, hc2, hs2, hu2, ho2, hr2, ht2, hk2⟩, -⟩
    have HG2 := Lib.hid (HG.out.stp (ts' := hs.map lgT) hc2 hs2 (hk2.rb.trans HG.out.rb_) (hk2.ws.trans HG.out.ws) (hk2.rc.trans HG.out.rc) (hk2.cl.trans HG.out.cl) (hk2.fin.trans HG.out.fin) (by rw [ht2]; exact HG.out.tk))
    have HBW2 := Lib.hid (HBW.out.trans ((hs2.below HG.out.cn HG.out.hB).mono HB0S.out))
    have HU2 := Lib.hid hu2
    have HHG := Lib.hid (lg_hang w2 w0.heap.size cb D2 hc2 _ HG2.out.tk m HLM.out.1 (by have := HP.out.2.2.1; omega) HLM.out.2)
    clear hc2 hs2 hu2 ho2 hr2 ht2 hk2 HTK HG HBW
    go_wp2_with fail
    with_reducible refine (HHG.out).mono ?_
    rintro e w3 ⟨A7, c7, L7, D3, Bt, rfl, hBt, ho3, ha3, hv3, hc3, hs3, hcl3, hu3, ht3⟩
    have HC3 := Lib.hid hc3
    have HOW3 := Lib.hid (HG2.out.own.off hs3.off HG2.out.nm)
    have HNM3 : Hid (∀ y ∈ bkV A', y ∉ D3.M cb) := Lib.hid (fun y hy hm => (hs3.m y hm).elim (HG2.out.nm y hy) (fun e => by have := (HG2.out.own.lt y hy).2; omega))
    have HBW3 := Lib.hid (HBW2.out.trans ((hs3.below HG2.out.cn HG2.out.hB).mono HB0S.out))
    have HL3 := Lib.hid (And.intro hBt (And.intro ho3 (And.intro ha3 (And.intro hv3 (And.intro hcl3 (ht3))))))
    have HU3 : Hid (D3.us.length = 0) := Lib.hid (by rw [hu3, HU2.out]; rfl)
    have HT3 := Lib.hid (show D3.toks.map TkR.v = hs.map lgT by rw [ht3]; exact HG2.out.tk)
    have lcb : Hid (cb < w2.heap.size) := Lib.hid HG2.out.cn.blk.lt
    have mm0 : ((m : Int) != (m : Int)) = false := by simp
    clear hBt ho3 ha3 hv3 hc3 hs3 hcl3 hu3 ht3 HHG HG2 HBW2
    go_wp2_with fail
    with_reducible refine (lg_open w3 w0.heap.size cb D3 HC3.out true HL3.out.2.2.2.2.1).mono ?_
    rintro e wx ⟨rfl, rfl⟩
    have HT2 := Lib.hid (lg_take w3 w0.heap.size cb D3 HC3.out 0 HU3.out)
    go_wp2_with fail
    with_reducible refine (HT2.out).mono ?_
    rintro e w4 ⟨⟨A4, c4, D4, rfl, hc4, hs4, hu4, ho4, hr4, ht4, hk4⟩, hw4⟩
    have fo4 : Off [cb] w3 w4 := by rw [hw4]; exact (Off.refl _ _).setCell (p := ⟨cb, 5, none⟩) (by simp) _
    have HTK4 : Hid (TksA w4 A7 m c7 L7) := Lib.hid ⟨⟨Bt, HL3.out.2.1.off fo4 (fun y hy hh => by simp at hh; subst hh; have h1 := (HL3.out.2.1.lt _ hy).1; have h2 := lcb.out; have h3 := HL3.out.1; omega)⟩, fun t ht => by
      have h5 := HC3.out.blk.cell 5 _ rfl
      have := (HL3.out.2.2.1 t ht).setOther _ _ _ h5 (.slice none 0 0)
      rw [← hw4] at this
      exact this.more fo4.size⟩
    have HOW4 := Lib.hid (HOW3.out.off hs4.off HNM3.out)
    have HBW4 := Lib.hid (HBW3.out.trans ((hs4.below HC3.out (Nat.le_trans (HC3.out.cbB) (Nat.le_of_lt HC3.out.blk.lt))).mono HB0S.out))
    have HLD := Lib.hid (lg_led w4 w0.heap.size cb D4 hc4 _ (by rw [ht4]; exact HT3.out) m HLM.out.1 (by have := HP.out.2.2.1; omega) HLM.out.2)
    have HV7 := Lib.hid HL3.out.2.2.2.1
    clear hc4 hs4 hu4 ho4 hr4 ht4 hk4 hw4 fo4 HT2 HC3 HOW3 HNM3 HBW3 HL3 HU3 HT3 lcb
    go_wp2_with fail
    with_reducible refine (HLD.out).mono ?_
    rintro e w5 ⟨A9, c9, L9, rfl, ht9, hv9, hb9⟩
    have HTK5 := Lib.hid (HTK4.out.below hb9)
    have HOW5 := Lib.hid (HOW4.out.below hb9)
    have HBW5 := Lib.hid (HBW4.out.trans (hb9.mono HBW4.out.size))
    have HSM := Lib.hid (same22_any w5 A9 A7 m c9 m c7 L9 L7 ht9 HTK5.out (hv9.trans HV7.out.symm))
    clear ht9 hv9 hb9 HLD HTK4 HOW4 HBW4
    go_wp2_with fail
    with_reducible refine (HSM.out).mono ?_
    rintro e w6 ⟨rfl, t6, rfl⟩
    have hbd : Below w5.heap.size w5 (w5.drewN t6) := below_drewN (Below.refl _ _) t6
    have HST3 : Hid (TksA (w5.drewN t6) A7 m c7 L7 ∧ OwnV (w5.drewN t6) w0.heap.size A' m c' (hs.map lgI) ∧ Below w.heap.size w (w5.drewN t6)) := Lib.hid ⟨HTK5.out.below hbd, HOW5.out.below hbd, HBW5.out.trans (hbd.mono HBW5.out.size)⟩
    clear hbd HTK5 HOW5 HBW5 HSM
    go_wp2_with fail
    go_loopw [164] (fun iv wq => ∃ j : Nat, j ≤ m ∧ iv = .int .i64 (j : Int) ∧ TksA wq A7 m c7 L7 ∧ OwnV wq w0.heap.size A' m c' (hs.map lgI) ∧ Below w.heap.size w wq) (fun iv _ => m - (intOf iv).toNat)
    case atStart => exact ⟨0, Nat.zero_le _, rfl, HST3.out⟩
    case round =>
      obtain ⟨j, hj, rfl, htk, how, hbq⟩ := hrel
      rename World => wq
      have HTQ := Lib.hid htk
      have HOQ := Lib.hid how
      have HBQ := Lib.hid hbq
      have hm80' : m ≤ 80 := HP.out.2.2.1
      clear htk how hbq HST3
      rcases Nat.lt_or_ge j m with hjm | hjm
      · have hLl := HTQ.out.len
        obtain ⟨B7, o7⟩ := HTQ.out.own
        obtain ⟨b7, off7, rfl, _, lb7, hc7, _⟩ := o7.cell (by omega)
        obtain ⟨bh, oh, rfl, _, lbh, hch, _⟩ := HOQ.out.cell (by omega)
        have hjl : j < hs.length := by have := HLM.out.1; rw [List.length_map] at this; omega
        obtain ⟨v, hv⟩ : ∃ v, hs.getD j 0 = v := ⟨_, rfl⟩
        have hvm : v ∈ hs := by rw [← hv, List.getD_eq_getElem?_getD, List.getElem?_eq_getElem hjl]; exact List.getElem_mem _
        have hvb := HP.out.2.2.2 v hvm
        have g0 : wq.cell? ⟨bh, oh + j, none⟩ = some (.int .i64 v) := hch j _ (by rw [List.getElem?_map, List.getElem?_eq_getElem hjl]; simp only [Option.map_some, lgI]; rw [← hv, List.getD_eq_getElem?_getD, List.getElem?_eq_getElem hjl]; rfl)
        have hcq := fun q (hq : q < 3) u (hu : (L7.getD j noTk).cells[q]? = some u) => hc7 (j * 3 + q) u (by rw [FTk_at L7 j q (by omega) hq]; exact hu)
        have hmem := HTQ.out.mem _ (tkD_mem (i := j) (by omega))
        have hvv : (L7.getD j noTk).v = lgT v := by
          have := congrArg (fun l => l[j]?) HV7.out
          simp only [List.getElem?_map, List.getElem?_eq_getElem hjl, List.getElem?_eq_getElem (show j < L7.length by omega), Option.map_some, Option.some.injEq] at this
          rw [List.getD_eq_getElem?_getD, List.getElem?_eq_getElem (show j < L7.length by omega)]
          rw [← hv, List.getD_eq_getElem?_getD, List.getElem?_eq_getElem hjl]
          exact this
        generalize L7.getD j noTk = t at hcq hmem hvv
        obtain ⟨tp, ts, tA, tc, tk⟩ := t
        simp only [lgT, TkV.mk.injEq] at hvv
        obtain ⟨rfl, rfl, rfl⟩ := hvv
        have e0 : wq.cell? ⟨b7, off7 + j * 3, none⟩ = some (.int .i64 1) := hcq 0 (by omega) _ rfl
        have e1 : wq.cell? ⟨b7, off7 + j * 3 + 1, none⟩ = some (.slice tA 1 tc) := hcq 1 (by omega) _ rfl
        have e2 : wq.cell? ⟨b7, off7 + j * 3 + 2, none⟩ = some (.int .i64 ts) := hcq 2 (by omega) _ rfl
        dsimp only at hmem
        obtain ⟨bk, ok, rfl, lk, hck⟩ := hmem.at_ (by simp)
        obtain ⟨p2, hp2⟩ : ∃ p2 : Nat, ts % 2 = (p2 : Int) := ⟨(ts % 2).toNat, by omega⟩
        have e3 : wq.cell? ⟨bk, ok, none⟩ = some (.int .u8 (97 + (p2 : Int))) := by
          have := hck 0 (by simp)
          simp only [Nat.add_zero, List.getD_cons_zero] at this
          rw [this, hp2]
          congr 2
        have v2 : Int.tmod ts 2 = (p2 : Int) := by rw [Int.tmod_eq_emod_of_nonneg (by omega)]; exact hp2
        have bl := (Below.refl wq.heap.size wq).alloc (Nat.le_refl _) (.cells #[.int .i64 1, .slice (some ⟨bk, ok, none⟩) 1 tc, .int .i64 ts] 24)
        have HB8 := Lib.hid bl
        have kt := BlkL.new wq [.int .i64 1, .slice (some ⟨bk, ok, none⟩) 1 tc, .int .i64 ts] 24
        have c0 := kt.cell 0 _ rfl
        have c1 := kt.cell 1 _ rfl
        have c2 := kt.cell 2 _ rfl
        have ct := kt.lt
        have g1 := (bl.cell (p := ⟨bh, oh + j, none⟩) lbh).trans g0
        have g3 := (bl.cell (p := ⟨bk, ok, none⟩) lk).trans e3
        have i0 : (0 : Int) ≤ (j : Int) := by omega
        have i1 : (j : Int) < (m : Int) := by omega
        have n0 : (2 : Int) ≤ ts := hvb.1
        have n1 : ts ≤ 200 := hvb.2
        have p20 : (0 : Int) ≤ (p2 : Int) := by omega
        have p21 : (p2 : Int) < 2 := by omega
        have x1 : (ts != ts) = false := by simp
        have x2 : ((97 + (p2 : Int)) != (97 + (p2 : Int))) = false := by simp
        clear hLl o7 hc7 hch hjl hv hvm hvb hcq hmem hck hp2 kt bl
        go_upto_region 46 with (fail)
        go_quiet (fail)
        go_wp2
        go_roundw
        case rel =>
          exact ⟨j + 1, by omega, by push_cast; rfl, by first | exact HTQ.out.below (HB8.out) | exact (HTQ.out.below HB8.out).below (below_drewN (Below.refl _ _) _), by first | exact HOQ.out.below HB8.out | exact (HOQ.out.below HB8.out).below (below_drewN (Below.refl _ _) _), by first | exact HBQ.out.trans (HB8.out.mono HBQ.out.size) | exact below_drewN (HBQ.out.trans (HB8.out.mono HBQ.out.size)) _⟩
        case measure => simp [intOf]; omega
      · obtain rfl : j = m := by omega
        have j1 : ¬ (j : Int) < (j : Int) := by omega
        go_wp2
        go_ret
        exact ⟨rfl, HBQ.out⟩
end Go.Proofs.Ytndgladfcogiiaa
