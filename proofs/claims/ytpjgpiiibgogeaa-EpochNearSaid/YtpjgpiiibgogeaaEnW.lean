/- The law EpochNear: its walk. -/
import Derived.Test.YtpjgpiiibgogeaaEnM
import Derived.BigQuiet
namespace Go.Proofs.Ytpjgpiiibgogeaa
open Go.RowKit
set_option maxRecDepth 100000
set_option linter.unusedVariables false

theorem eepochR {w0 w : World} {x W k : Nat} {X : List Nat} {s : EpV} (h : EpC w0 w x W X k s) (hk : k < 2305843009213693952) (t : Nat) : Calls Try.prog 26 #[PV x] (w.drewN t) fun e w' => e = .returned (.int .i64 (s.E : Int)) ∧ w' = w.drewN t :=
  (eepochC (h.below (below_drewN (Below.refl _ _) t)) hk).mono fun e w' ⟨a, b⟩ => ⟨a, b.symm⟩
structure NeS (w wr : World) (x O N k : Nat) (s : EpV) (opf : Nat → Nat) : Prop where
  c : EpC w wr x 4 [N, O] k s
  o : BlkF wr O 4 (fun j => .int .u8 (opf j : Nat))
  p : BlkF wr N 4 (fun j => .int .i64 ((s.wk j).pin : Nat))
  op : ∀ j, j < 4 → isEN (s.wk j).nx = true → opf j = opY (s.wk j).nx
theorem NeS.below {w wr w' : World} {x O N k : Nat} {s : EpV} {opf : Nat → Nat} (h : NeS w wr x O N k s opf) (hb : Below wr.heap.size wr w') : NeS w w' x O N k s opf :=
  ⟨h.c.below hb, h.o.off (Off.of_below (S := []) hb) (by simp), h.p.off (Off.of_below (S := []) hb) (by simp), h.op⟩
theorem blkF_of {w : World} {b n : Nat} {f : Nat → Value} {xs : List Value} (h : BlkL w b xs) (hn : xs.length = n) (hf : ∀ j, j < n → xs[j]? = some (f j)) : BlkF w b n f :=
  ⟨h.lt, fun j hj => h.cell j _ (hf j hj), fun j hj => h.froz j (by omega)⟩
theorem BlkF.congr {w : World} {b n : Nat} {f g : Nat → Value} (h : BlkF w b n f) (hf : ∀ j, j < n → f j = g j) : BlkF w b n g :=
  ⟨h.lt, fun j hj => (h.cell j hj).trans (by rw [hf j hj]), h.froz⟩
def NeI (w : World) (x O N n : Nat) (iv : Value) (wr : World) : Prop :=
  ∃ i k s opf, i ≤ n ∧ i ≤ 400 ∧ iv = .int .i64 ((i : Nat) : Int) ∧ k ≤ i ∧ NeS w wr x O N k s opf
set_option maxHeartbeats 12800000 in
theorem epochNear_walk (A : Option Addr) (n d : Nat) (l0 : List EpkV) (w : World) (h : ArgC w w.heap.size 3 A n d (FE l0)) (hd : d ≤ 5864062014805) (hok : okEpks l0) :
    Calls Try.prog 6 #[.slice A n d] w (ValEnd w (.bool true)) := by
  have hle := h.le
  have HAG := Lib.hid h
  have HOK := Lib.hid hok
  clear h hok
  go_enter Try.func6, Try.ntmps6
  go_wp2_with fail
  with_reducible refine (awake13_any _).mono ?_
  rintro e w1 ⟨rfl, hB⟩
  have HN : Hid (Calls Try.prog 14 #[.int .i64 4] w1 _) := Lib.hid (enewC w w1 hB 4 (by omega) (by omega))
  clear hB
  go_wp2_with fail
  with_reducible refine HN.out.mono ?_
  rintro e w2 ⟨x, rfl, c2, _⟩
  have c3 := (c2.newX (.cells #[.int .u8 0, .int .u8 0, .int .u8 0, .int .u8 0] 54)).newX (.cells #[.int .i64 0, .int .i64 0, .int .i64 0, .int .i64 0] 63)
  rw [World.size_alloc] at c3
  have ko := (BlkL.new w2 [.int .u8 0, .int .u8 0, .int .u8 0, .int .u8 0] 54).alloc (.cells #[.int .i64 0, .int .i64 0, .int .i64 0, .int .i64 0] 63)
  have kp := BlkL.new (w2.alloc (.cells #[.int .u8 0, .int .u8 0, .int .u8 0, .int .u8 0] 54)) [.int .i64 0, .int .i64 0, .int .i64 0, .int .i64 0] 63
  rw [World.size_alloc] at kp
  have C3 : Hid (NeS w _ x w2.heap.size (w2.heap.size + 1) 0 (initE 4) (fun _ => 0)) := Lib.hid ⟨c3, blkF_of ko rfl (fun j hj => by
    rcases (by omega : j = 0 ∨ j = 1 ∨ j = 2 ∨ j = 3) with rfl | rfl | rfl | rfl <;> rfl), blkF_of kp rfl (fun j hj => by
    rcases (by omega : j = 0 ∨ j = 1 ∨ j = 2 ∨ j = 3) with rfl | rfl | rfl | rfl <;> rfl), fun j _ hj => by simp [initE, isEN] at hj⟩
  have hON : w.heap.size ≤ w2.heap.size := c2.bel.size
  clear c2 c3 ko kp HN
  go_wp2
  generalize w2.heap.size = O at *
  go_loopw [28] (fun iv wr => NeI w x O (O + 1) n iv wr) (fun iv _ => n - (intOf iv).toNat)
  case atStart => exact ⟨0, 0, _, _, Nat.zero_le _, by omega, rfl, Nat.le_refl _, C3.out⟩
  case round =>
    obtain ⟨i, k, s, opf, hi, hi2, rfl, hk, hs⟩ := hrel
    clear C3
    have hbs := hs.c.bel.size
    rcases Nat.lt_or_ge i n with hin | hin
    · obtain ⟨bb, off, rfl, hbb, hcell⟩ := epk_at (HAG.out.below hs.c.bel) hin
      have q0 := hcell 0 (by omega)
      have q1 := hcell 1 (by omega)
      have q2 := hcell 2 (by omega)
      have hpok := okEpks_at HOK.out i
      generalize l0.getD i noEpk = p at q0 q1 q2 hpok
      obtain ⟨who, op, thing⟩ := p
      replace q0 : wr.cell? ⟨bb, off + i * 3, none⟩ = some (.int .i64 who) := q0
      replace q1 : wr.cell? ⟨bb, off + i * 3 + 1, none⟩ = some (.int .u8 (op : Int)) := q1
      replace q2 : wr.cell? ⟨bb, off + i * 3 + 2, none⟩ = some (.int .i64 thing) := q2
      have j0 : (0 : Int) ≤ (i : Int) := by omega
      have j1 : (i : Int) < (n : Int) := by omega
      have hbb2 : bb < wr.heap.size := by omega
      have hop1 : op ≤ 255 := hpok.op1
      clear hcell hpok
      have S1 : Hid (NeS w (wr.alloc (.cells #[.int .i64 who, .int .u8 (op : Int), .int .i64 thing] 32)) x O (O + 1) k s opf) := Lib.hid (hs.below ((Below.refl _ _).alloc (Nat.le_refl _) _))
      rcases Nat.lt_or_ge i 400 with h3 | h3
      · have h3' : ¬ (400 : Int) ≤ (i : Int) := by omega
        have hwe := who4_eq who
        have hql := who4_lt who
        generalize who4 who = q at hwe hql
        have hqw : IntKind.i64.wrap (q : Int) = (q : Int) := IntWalk.i64_in _ (by omega)
        have jq0 : (0 : Int) ≤ (q : Int) := by omega
        have jq4 : (q : Int) < 4 := by omega
        obtain ⟨o, ho1, ho5, hoe⟩ := eop5_eq op
        by_cases hop0 : op = 0
        · subst hop0
          have z0 : ((0 : Nat) : Int) = 0 := rfl
          rw [z0] at q1 S1
          clear hoe ho1 ho5 z0
          have HPD := Lib.hid (ependC S1.out.c q hql)
          have hinv := S1.out.c.inv
          have ow := S1.out.o.cell q hql
          have HS := Lib.hid hs
          clear hs
          go_wp2_with fail
          with_reducible refine HPD.out.mono ?_
          rintro e w3 ⟨rfl, hw⟩
          subst hw
          clear HPD
          rcases hp : isEN (s.wk q).nx with _ | _
          · go_wp2
            go_roundw
            case rel => exact ⟨i + 1, k, s, opf, by omega, by omega, by go_num, by omega, S1.out⟩
            case measure => simp [intOf]; omega
          · have hopq := S1.out.op q hql hp
            rw [hopq] at ow
            generalize hy : opY (s.wk q).nx = y at *
            have hso := stepE_op hinv hql hp
            rw [hy] at hso
            have hsw := fun j (hj : j ≠ q) => stepE_wk (W := 4) (s := s) hj
            have hEB := (stepE_E hinv q).2
            generalize htt : stepE 4 s q = tt at hso hsw hEB
            obtain ⟨⟨td, te, tn, tth⟩, ts, ty⟩ := tt
            simp only at hso hsw hEB
            have HSO := Lib.hid hso
            have HSW := Lib.hid hsw
            have HOP := Lib.hid (fun j hj => S1.out.op j hj)
            have HY := Lib.hid hy
            have HEB : Hid ((ts.nx q ty).E ≤ 1000) := Lib.hid (by rw [EpV.E_nx]; have := S1.out.c.ek; omega)
            have hopN : ∀ j, j < 4 → isEN ((ts.nx q ty).wk j).nx = true → opf j = opY ((ts.nx q ty).wk j).nx := fun j hj => by
              by_cases e : j = q
              · subst e; rw [EpV.wk_nx]; intro h9; rw [hopq]; exact (hso.1 h9).symm
              · rw [EpV.wk_nx' _ _ _ e, hsw j e]; exact S1.out.op j hj
            have HOPN := Lib.hid hopN
            have HOPQ := Lib.hid hopq
            have hpq : ∀ j, j ≠ q → ((ts.nx q ty).wk j).pin = (s.wk j).pin := fun j e => by rw [EpV.wk_nx' _ _ _ e, hsw j e]
            have hpqq : ((ts.nx q ty).wk q).pin = (ts.wk q).pin := by rw [EpV.wk_nx]
            have HPQ := Lib.hid (And.intro hpq hpqq)
            clear hopN hpq hpqq hso hsw hEB hopq hy
            by_cases hy2 : y = 2
            · subst hy2
              obtain ⟨h2d, h2p⟩ := HSO.out.2.2.1 rfl
              obtain rfl : td = true := h2d
              have H2P := Lib.hid h2p
              clear h2p
              have kp := S1.out.p
              have lp := kp.lt
              have v0 := kp.cell q hql
              have v1 := kp.froz q hql
              have hpt := (Off.refl [O + 1] (wr.alloc (.cells #[.int .i64 who, .int .u8 0, .int .i64 thing] 32))).setCell (p := ⟨O + 1, q, none⟩) (by simp) (.int .i64 0)
              have ko5 := S1.out.o.off hpt (by simp)
              have kp5 := kp.set q (.int .i64 0) hql
              have hc5 := S1.out.c.putX hpt (fun y hy => by simp only [List.mem_cons, List.not_mem_nil, or_false] at hy; subst hy; exact ⟨by simp, by omega⟩)
              have HSP := Lib.hid (estepC hc5 (by omega) q hql hp _ htt)
              have HK5 := Lib.hid (And.intro ko5 kp5)
              clear ko5 kp5 hc5 kp hpt htt hinv hp
              go_wp2_with fail
              with_reducible refine HSP.out.mono ?_
              rintro e w6 ⟨A6, c6, rfl, e6, o6, f6⟩
              have ko6 := f6.blkF HK5.out.1 (by simp)
              have kp6 := f6.blkF HK5.out.2 (by simp)
              have hs6 : NeS w w6 x O (O + 1) (k + 1) (ts.nx q ty) opf := ⟨e6.weak (fun y hy => List.mem_append_right _ hy), ko6, kp6.congr (fun j hj => by
                by_cases e : j = q
                · subst e
                  rw [updF_same, HPQ.out.2, H2P.out]; rfl
                · rw [updF_other _ _ _ _ e, HPQ.out.1 j e]), HOPN.out⟩
              have u6 := ko6.cell q hql
              rw [HOPQ.out] at u6
              have lo6 := ko6.lt
              have HNE := Lib.hid (hs6.below ((Below.refl w6.heap.size w6).alloc (Nat.le_refl _) (.cells #[.bool true, .int .i64 (te : Int), .int .i64 tn, .slice A6 tth.length c6] 37)))
              clear e6 o6 f6 ko6 kp6 hs6 HSP HK5
              go_wp2
              go_loopw [87] (fun jv wl => ∃ j : Nat, j ≤ 4 ∧ jv = .int .i64 ((j : Nat) : Int) ∧ NeS w wl x O (O + 1) (k + 1) (ts.nx q ty) opf) (fun jv _ => 4 - (intOf jv).toNat)
              case atStart => exact ⟨0, by omega, rfl, HNE.out⟩
              case round =>
                obtain ⟨j, hj, rfl, hl⟩ := hrel
                rcases Nat.lt_or_ge j 4 with hj4 | hj4
                · have jj : (j : Int) < 4 := by omega
                  have jj0 : (0 : Int) ≤ (j : Int) := by omega
                  have hnear := (hl.c.inv.form j hj4).near
                  have pj := hl.p.cell j hj4
                  have HEQ := Lib.hid (fun t => eepochR hl.c (by omega) t)
                  have HL := Lib.hid hl
                  clear hl HNE
                  generalize ((ts.nx q ty).wk j).pin = pin at *
                  generalize (ts.nx q ty).E = E at *
                  have hw1 : IntKind.i64.wrap ((pin : Int) - 1) = (pin : Int) - 1 := by
                    refine IntWalk.i64_in _ ?_
                    rcases Nat.eq_zero_or_pos pin with h | h
                    · omega
                    · have := hnear (by omega)
                      have := HEB.out
                      omega
                  rcases Nat.eq_zero_or_pos pin with h0 | h0
                  · subst h0
                    clear hnear hw1
                    go_wp2_with fail
                    go_quiet (first | (go_at_call 26; with_reducible exact Calls.quiet_of_same (HEQ.out _)))
                    rename_i nq
                    go_wp2
                    go_roundw
                    case rel => exact ⟨j + 1, by omega, by go_num, HL.out.below (below_drewN (Below.refl _ _) _)⟩
                    case measure => simp [intOf]; omega
                  · have hn2 := hnear (by omega)
                    have g0 : (0 : Int) < (pin : Int) := by omega
                    have g1 : ¬ (E : Int) < (pin : Int) - 1 := by omega
                    have g2 : ¬ (pin : Int) < (E : Int) := by omega
                    clear hnear hn2
                    go_wp2_with fail
                    go_quiet (first | (go_at_call 26; with_reducible exact Calls.quiet_of_same (HEQ.out _)))
                    rename_i nq
                    go_wp2
                    go_roundw
                    case rel => exact ⟨j + 1, by omega, by go_num, HL.out.below (below_drewN (Below.refl _ _) _)⟩
                    case measure => simp [intOf]; omega
                · obtain rfl : j = 4 := by omega
                  have jj : ¬ ((4 : Nat) : Int) < 4 := by omega
                  clear HNE
                  have HL := Lib.hid hl
                  clear hl
                  go_wp2
                  go_roundw
                  case rel => exact ⟨i + 1, k + 1, _, opf, by omega, by omega, by go_num, by omega, HL.out⟩
                  case measure => simp [intOf]; omega
            · have yn2 : ¬ (y : Int) = 2 := by omega
              have HSP := Lib.hid (estepC S1.out.c (by omega) q hql hp _ htt)
              clear htt hinv hp
              by_cases hy1 : y = 1
              · subst hy1
                rcases td with _ | _
                · have hpp := HSO.out.2.2.2.2 (by omega) (fun _ => rfl)
                  have HPP := Lib.hid hpp
                  clear hpp
                  go_wp2_with fail
                  with_reducible refine HSP.out.mono ?_
                  rintro e w6 ⟨A6, c6, rfl, e6, o6, f6⟩
                  have ko6 := f6.blkF S1.out.o (by simp)
                  have kp6 := f6.blkF S1.out.p (by simp)
                  have hs6 : NeS w w6 x O (O + 1) (k + 1) (ts.nx q ty) opf := ⟨e6.weak (fun y hy => List.mem_append_right _ hy), ko6, kp6.congr (fun j hj => by
                    by_cases e : j = q
                    · subst e
                      rw [HPQ.out.2, HPP.out]
                    · rw [HPQ.out.1 j e]), HOPN.out⟩
                  have ow6 := ko6.cell q hql
                  rw [HOPQ.out] at ow6
                  have lo6 := ko6.lt
                  have HNE := Lib.hid (hs6.below ((Below.refl w6.heap.size w6).alloc (Nat.le_refl _) (.cells #[.bool false, .int .i64 (te : Int), .int .i64 tn, .slice A6 tth.length c6] 37)))
                  clear e6 o6 f6 ko6 kp6 hs6 HSP
                  go_wp2
                  go_loopw [87] (fun jv wl => ∃ j : Nat, j ≤ 4 ∧ jv = .int .i64 ((j : Nat) : Int) ∧ NeS w wl x O (O + 1) (k + 1) (ts.nx q ty) opf) (fun jv _ => 4 - (intOf jv).toNat)
                  case atStart => exact ⟨0, by omega, rfl, HNE.out⟩
                  case round =>
                    obtain ⟨j, hj, rfl, hl⟩ := hrel
                    rcases Nat.lt_or_ge j 4 with hj4 | hj4
                    · have jj : (j : Int) < 4 := by omega
                      have jj0 : (0 : Int) ≤ (j : Int) := by omega
                      have hnear := (hl.c.inv.form j hj4).near
                      have pj := hl.p.cell j hj4
                      have HEQ := Lib.hid (fun t => eepochR hl.c (by omega) t)
                      have HL := Lib.hid hl
                      clear hl HNE
                      generalize ((ts.nx q ty).wk j).pin = pin at *
                      generalize (ts.nx q ty).E = E at *
                      have hw1 : IntKind.i64.wrap ((pin : Int) - 1) = (pin : Int) - 1 := by
                        refine IntWalk.i64_in _ ?_
                        rcases Nat.eq_zero_or_pos pin with h | h
                        · omega
                        · have := hnear (by omega)
                          have := HEB.out
                          omega
                      rcases Nat.eq_zero_or_pos pin with h0 | h0
                      · subst h0
                        clear hnear hw1
                        go_wp2_with fail
                        go_quiet (first | (go_at_call 26; with_reducible exact Calls.quiet_of_same (HEQ.out _)))
                        rename_i nq
                        go_wp2
                        go_roundw
                        case rel => exact ⟨j + 1, by omega, by go_num, HL.out.below (below_drewN (Below.refl _ _) _)⟩
                        case measure => simp [intOf]; omega
                      · have hn2 := hnear (by omega)
                        have g0 : (0 : Int) < (pin : Int) := by omega
                        have g1 : ¬ (E : Int) < (pin : Int) - 1 := by omega
                        have g2 : ¬ (pin : Int) < (E : Int) := by omega
                        clear hnear hn2
                        go_wp2_with fail
                        go_quiet (first | (go_at_call 26; with_reducible exact Calls.quiet_of_same (HEQ.out _)))
                        rename_i nq
                        go_wp2
                        go_roundw
                        case rel => exact ⟨j + 1, by omega, by go_num, HL.out.below (below_drewN (Below.refl _ _) _)⟩
                        case measure => simp [intOf]; omega
                    · obtain rfl : j = 4 := by omega
                      have jj : ¬ ((4 : Nat) : Int) < 4 := by omega
                      clear HNE
                      have HL := Lib.hid hl
                      clear hl
                      go_wp2
                      go_roundw
                      case rel => exact ⟨i + 1, k + 1, _, opf, by omega, by omega, by go_num, by omega, HL.out⟩
                      case measure => simp [intOf]; omega
                · have hpp := HSO.out.2.2.2.1 rfl rfl
                  have HPP := Lib.hid hpp
                  clear hpp
                  go_wp2_with fail
                  with_reducible refine HSP.out.mono ?_
                  rintro e w6 ⟨A6, c6, rfl, e6, o6, f6⟩
                  have ko6 := f6.blkF S1.out.o (by simp)
                  have kp6 := f6.blkF S1.out.p (by simp)
                  have ow6 := ko6.cell q hql
                  rw [HOPQ.out] at ow6
                  have lo6 := ko6.lt
                  have lp6 := kp6.lt
                  have v0 := kp6.cell q hql
                  have v1 := kp6.froz q hql
                  have hwn : IntKind.i64.wrap (tn + 1) = tn + 1 := by
                    refine IntWalk.i64_in _ ?_
                    have h1 := HPP.out
                    have h2 := (e6.inv.form q hql).pin_le
                    rw [HPQ.out.2] at h2
                    have h3 := HEB.out
                    omega
                  have hal := (Below.refl w6.heap.size w6).alloc (Nat.le_refl _) (.cells #[.bool true, .int .i64 (te : Int), .int .i64 tn, .slice A6 tth.length c6] 37)
                  have hpt := (Off.refl [O + 1] w6).setCell (p := ⟨O + 1, q, none⟩) (by simp) (.int .i64 (tn + 1))
                  have hs6 : NeS w (w6.setCell ⟨O + 1, q, none⟩ (.int .i64 (tn + 1))) x O (O + 1) (k + 1) (ts.nx q ty) opf := ⟨(e6.weak (X' := [O + 1, O]) (fun y hy => List.mem_append_right _ hy)).putX hpt (fun y hy => by simp only [List.mem_cons, List.not_mem_nil, or_false] at hy; subst hy; exact ⟨by simp, by omega⟩), ko6.off hpt (by simp), (kp6.set q _ hql).congr (fun j hj => by
                    by_cases e : j = q
                    · subst e
                      rw [updF_same, HPQ.out.2, HPP.out]
                    · rw [updF_other _ _ _ _ e, HPQ.out.1 j e]), HOPN.out⟩
                  have HNE := Lib.hid (hs6.below ((Below.refl _ _).alloc (Nat.le_refl _) (.cells #[.bool true, .int .i64 (te : Int), .int .i64 tn, .slice A6 tth.length c6] 37)))
                  clear e6 o6 f6 ko6 kp6 hs6 HSP hal hpt
                  go_wp2
                  go_loopw [87] (fun jv wl => ∃ j : Nat, j ≤ 4 ∧ jv = .int .i64 ((j : Nat) : Int) ∧ NeS w wl x O (O + 1) (k + 1) (ts.nx q ty) opf) (fun jv _ => 4 - (intOf jv).toNat)
                  case atStart => exact ⟨0, by omega, rfl, HNE.out⟩
                  case round =>
                    obtain ⟨j, hj, rfl, hl⟩ := hrel
                    rcases Nat.lt_or_ge j 4 with hj4 | hj4
                    · have jj : (j : Int) < 4 := by omega
                      have jj0 : (0 : Int) ≤ (j : Int) := by omega
                      have hnear := (hl.c.inv.form j hj4).near
                      have pj := hl.p.cell j hj4
                      have HEQ := Lib.hid (fun t => eepochR hl.c (by omega) t)
                      have HL := Lib.hid hl
                      clear hl HNE
                      generalize ((ts.nx q ty).wk j).pin = pin at *
                      generalize (ts.nx q ty).E = E at *
                      have hw1 : IntKind.i64.wrap ((pin : Int) - 1) = (pin : Int) - 1 := by
                        refine IntWalk.i64_in _ ?_
                        rcases Nat.eq_zero_or_pos pin with h | h
                        · omega
                        · have := hnear (by omega)
                          have := HEB.out
                          omega
                      rcases Nat.eq_zero_or_pos pin with h0 | h0
                      · subst h0
                        clear hnear hw1
                        go_wp2_with fail
                        go_quiet (first | (go_at_call 26; with_reducible exact Calls.quiet_of_same (HEQ.out _)))
                        rename_i nq
                        go_wp2
                        go_roundw
                        case rel => exact ⟨j + 1, by omega, by go_num, HL.out.below (below_drewN (Below.refl _ _) _)⟩
                        case measure => simp [intOf]; omega
                      · have hn2 := hnear (by omega)
                        have g0 : (0 : Int) < (pin : Int) := by omega
                        have g1 : ¬ (E : Int) < (pin : Int) - 1 := by omega
                        have g2 : ¬ (pin : Int) < (E : Int) := by omega
                        clear hnear hn2
                        go_wp2_with fail
                        go_quiet (first | (go_at_call 26; with_reducible exact Calls.quiet_of_same (HEQ.out _)))
                        rename_i nq
                        go_wp2
                        go_roundw
                        case rel => exact ⟨j + 1, by omega, by go_num, HL.out.below (below_drewN (Below.refl _ _) _)⟩
                        case measure => simp [intOf]; omega
                    · obtain rfl : j = 4 := by omega
                      have jj : ¬ ((4 : Nat) : Int) < 4 := by omega
                      clear HNE
                      have HL := Lib.hid hl
                      clear hl
                      go_wp2
                      go_roundw
                      case rel => exact ⟨i + 1, k + 1, _, opf, by omega, by omega, by go_num, by omega, HL.out⟩
                      case measure => simp [intOf]; omega
              · have yn1 : ¬ (y : Int) = 1 := by omega
                have yb1 : ((y : Int) == 1) = false := by simpa using yn1
                have yc1 : (y == 1) = false := by simpa using hy1
                rcases td with _ | _
                · have hpp := HSO.out.2.2.2.2 (by omega) (fun h => absurd h hy1)
                  have HPP := Lib.hid hpp
                  clear hpp
                  go_wp2_with fail
                  with_reducible refine HSP.out.mono ?_
                  rintro e w6 ⟨A6, c6, rfl, e6, o6, f6⟩
                  have ko6 := f6.blkF S1.out.o (by simp)
                  have kp6 := f6.blkF S1.out.p (by simp)
                  have hs6 : NeS w w6 x O (O + 1) (k + 1) (ts.nx q ty) opf := ⟨e6.weak (fun y hy => List.mem_append_right _ hy), ko6, kp6.congr (fun j hj => by
                    by_cases e : j = q
                    · subst e
                      rw [HPQ.out.2, HPP.out]
                    · rw [HPQ.out.1 j e]), HOPN.out⟩
                  have ow6 := ko6.cell q hql
                  rw [HOPQ.out] at ow6
                  have lo6 := ko6.lt
                  have HNE := Lib.hid (hs6.below ((Below.refl w6.heap.size w6).alloc (Nat.le_refl _) (.cells #[.bool false, .int .i64 (te : Int), .int .i64 tn, .slice A6 tth.length c6] 37)))
                  clear e6 o6 f6 ko6 kp6 hs6 HSP
                  go_wp2
                  go_loopw [87] (fun jv wl => ∃ j : Nat, j ≤ 4 ∧ jv = .int .i64 ((j : Nat) : Int) ∧ NeS w wl x O (O + 1) (k + 1) (ts.nx q ty) opf) (fun jv _ => 4 - (intOf jv).toNat)
                  case atStart => exact ⟨0, by omega, rfl, HNE.out⟩
                  case round =>
                    obtain ⟨j, hj, rfl, hl⟩ := hrel
                    rcases Nat.lt_or_ge j 4 with hj4 | hj4
                    · have jj : (j : Int) < 4 := by omega
                      have jj0 : (0 : Int) ≤ (j : Int) := by omega
                      have hnear := (hl.c.inv.form j hj4).near
                      have pj := hl.p.cell j hj4
                      have HEQ := Lib.hid (fun t => eepochR hl.c (by omega) t)
                      have HL := Lib.hid hl
                      clear hl HNE
                      generalize ((ts.nx q ty).wk j).pin = pin at *
                      generalize (ts.nx q ty).E = E at *
                      have hw1 : IntKind.i64.wrap ((pin : Int) - 1) = (pin : Int) - 1 := by
                        refine IntWalk.i64_in _ ?_
                        rcases Nat.eq_zero_or_pos pin with h | h
                        · omega
                        · have := hnear (by omega)
                          have := HEB.out
                          omega
                      rcases Nat.eq_zero_or_pos pin with h0 | h0
                      · subst h0
                        clear hnear hw1
                        go_wp2_with fail
                        go_quiet (first | (go_at_call 26; with_reducible exact Calls.quiet_of_same (HEQ.out _)))
                        rename_i nq
                        go_wp2
                        go_roundw
                        case rel => exact ⟨j + 1, by omega, by go_num, HL.out.below (below_drewN (Below.refl _ _) _)⟩
                        case measure => simp [intOf]; omega
                      · have hn2 := hnear (by omega)
                        have g0 : (0 : Int) < (pin : Int) := by omega
                        have g1 : ¬ (E : Int) < (pin : Int) - 1 := by omega
                        have g2 : ¬ (pin : Int) < (E : Int) := by omega
                        clear hnear hn2
                        go_wp2_with fail
                        go_quiet (first | (go_at_call 26; with_reducible exact Calls.quiet_of_same (HEQ.out _)))
                        rename_i nq
                        go_wp2
                        go_roundw
                        case rel => exact ⟨j + 1, by omega, by go_num, HL.out.below (below_drewN (Below.refl _ _) _)⟩
                        case measure => simp [intOf]; omega
                    · obtain rfl : j = 4 := by omega
                      have jj : ¬ ((4 : Nat) : Int) < 4 := by omega
                      clear HNE
                      have HL := Lib.hid hl
                      clear hl
                      go_wp2
                      go_roundw
                      case rel => exact ⟨i + 1, k + 1, _, opf, by omega, by omega, by go_num, by omega, HL.out⟩
                      case measure => simp [intOf]; omega
                · have hpp := HSO.out.2.2.2.2 (by omega) (fun h => absurd h hy1)
                  have HPP := Lib.hid hpp
                  clear hpp
                  go_wp2_with fail
                  with_reducible refine HSP.out.mono ?_
                  rintro e w6 ⟨A6, c6, rfl, e6, o6, f6⟩
                  have ko6 := f6.blkF S1.out.o (by simp)
                  have kp6 := f6.blkF S1.out.p (by simp)
                  have hs6 : NeS w w6 x O (O + 1) (k + 1) (ts.nx q ty) opf := ⟨e6.weak (fun y hy => List.mem_append_right _ hy), ko6, kp6.congr (fun j hj => by
                    by_cases e : j = q
                    · subst e
                      rw [HPQ.out.2, HPP.out]
                    · rw [HPQ.out.1 j e]), HOPN.out⟩
                  have ow6 := ko6.cell q hql
                  rw [HOPQ.out] at ow6
                  have lo6 := ko6.lt
                  have HNE := Lib.hid (hs6.below ((Below.refl w6.heap.size w6).alloc (Nat.le_refl _) (.cells #[.bool true, .int .i64 (te : Int), .int .i64 tn, .slice A6 tth.length c6] 37)))
                  clear e6 o6 f6 ko6 kp6 hs6 HSP
                  go_wp2
                  go_loopw [87] (fun jv wl => ∃ j : Nat, j ≤ 4 ∧ jv = .int .i64 ((j : Nat) : Int) ∧ NeS w wl x O (O + 1) (k + 1) (ts.nx q ty) opf) (fun jv _ => 4 - (intOf jv).toNat)
                  case atStart => exact ⟨0, by omega, rfl, HNE.out⟩
                  case round =>
                    obtain ⟨j, hj, rfl, hl⟩ := hrel
                    rcases Nat.lt_or_ge j 4 with hj4 | hj4
                    · have jj : (j : Int) < 4 := by omega
                      have jj0 : (0 : Int) ≤ (j : Int) := by omega
                      have hnear := (hl.c.inv.form j hj4).near
                      have pj := hl.p.cell j hj4
                      have HEQ := Lib.hid (fun t => eepochR hl.c (by omega) t)
                      have HL := Lib.hid hl
                      clear hl HNE
                      generalize ((ts.nx q ty).wk j).pin = pin at *
                      generalize (ts.nx q ty).E = E at *
                      have hw1 : IntKind.i64.wrap ((pin : Int) - 1) = (pin : Int) - 1 := by
                        refine IntWalk.i64_in _ ?_
                        rcases Nat.eq_zero_or_pos pin with h | h
                        · omega
                        · have := hnear (by omega)
                          have := HEB.out
                          omega
                      rcases Nat.eq_zero_or_pos pin with h0 | h0
                      · subst h0
                        clear hnear hw1
                        go_wp2_with fail
                        go_quiet (first | (go_at_call 26; with_reducible exact Calls.quiet_of_same (HEQ.out _)))
                        rename_i nq
                        go_wp2
                        go_roundw
                        case rel => exact ⟨j + 1, by omega, by go_num, HL.out.below (below_drewN (Below.refl _ _) _)⟩
                        case measure => simp [intOf]; omega
                      · have hn2 := hnear (by omega)
                        have g0 : (0 : Int) < (pin : Int) := by omega
                        have g1 : ¬ (E : Int) < (pin : Int) - 1 := by omega
                        have g2 : ¬ (pin : Int) < (E : Int) := by omega
                        clear hnear hn2
                        go_wp2_with fail
                        go_quiet (first | (go_at_call 26; with_reducible exact Calls.quiet_of_same (HEQ.out _)))
                        rename_i nq
                        go_wp2
                        go_roundw
                        case rel => exact ⟨j + 1, by omega, by go_num, HL.out.below (below_drewN (Below.refl _ _) _)⟩
                        case measure => simp [intOf]; omega
                    · obtain rfl : j = 4 := by omega
                      have jj : ¬ ((4 : Nat) : Int) < 4 := by omega
                      clear HNE
                      have HL := Lib.hid hl
                      clear hl
                      go_wp2
                      go_roundw
                      case rel => exact ⟨i + 1, k + 1, _, opf, by omega, by omega, by go_num, by omega, HL.out⟩
                      case measure => simp [intOf]; omega
        · have hop0' : ¬ (op : Int) = 0 := by omega
          have HS := Lib.hid hs
          clear hs
          rcases hck : checkE (s.wk q) o with _ | ce
          · have HST := Lib.hid (estartC S1.out.c q hql o (i : Int) ho1 ho5 hck)
            have hoy := opY_first o (i : Int) ho1 ho5
            go_wp2_with fail
            with_reducible refine HST.out.mono ?_
            rintro e w3 ⟨rfl, c3, f3⟩
            have ko := f3.blkF S1.out.o (by simp)
            have kp := f3.blkF S1.out.p (by simp)
            have lo := ko.lt
            have u0 := ko.cell q hql
            have u1 := ko.froz q hql
            have hp := (Off.refl [O] w3).setCell (p := ⟨O, q, none⟩) (by simp) (.int .u8 (o : Int))
            have hne : O + 1 ∉ [O] := by simp
            have K3 : Hid (NeS w (w3.setCell ⟨O, q, none⟩ (.int .u8 (o : Int))) x O (O + 1) k (s.nx q (firstE o (i : Int))) (updF opf q o)) := Lib.hid ⟨c3.putX hp (fun y hy => by simp only [List.mem_cons, List.not_mem_nil, or_false] at hy; subst hy; exact ⟨by simp, hON⟩), by
              have := ko.set q (.int .u8 (o : Int)) hql
              rw [show updF (fun j => Value.int .u8 ((opf j : Nat) : Int)) q (.int .u8 (o : Int)) = fun j => Value.int .u8 ((updF opf q o j : Nat) : Int) from ?_] at this
              · exact this
              · funext j
                by_cases e : j = q
                · subst e; rw [updF_same, updF_same]
                · rw [updF_other _ _ _ _ e, updF_other _ _ _ _ e], by
              have := kp.off hp hne
              rw [show (fun j => Value.int .i64 (((s.nx q (firstE o (i : Int))).wk j).pin : Nat)) = fun j => Value.int .i64 ((s.wk j).pin : Nat) from ?_]
              · exact this
              · funext j
                by_cases e : j = q
                · subst e; rw [EpV.wk_nx]
                · rw [EpV.wk_nx' _ _ _ e], fun j hj => by
              by_cases e : j = q
              · subst e; rw [EpV.wk_nx, updF_same]; intro _; exact hoy.1.symm
              · rw [EpV.wk_nx' _ _ _ e, updF_other _ _ _ _ e]; exact S1.out.op j hj⟩
            clear c3 f3 ko kp hp hne HST
            go_wp2
            go_roundw
            case rel => exact ⟨i + 1, k, _, _, by omega, by omega, by go_num, by omega, K3.out⟩
            case measure => simp [intOf]; omega
          · have hst := estartN S1.out.c q hql o (i : Int) ho1 ho5 (by omega)
            rw [hck] at hst
            have HST := Lib.hid hst
            have hce : ¬ ((ce + 1 : Nat) : Int) = 0 := by omega
            clear hst
            go_wp2_with fail
            with_reducible refine HST.out.mono ?_
            rintro e w3 ⟨rfl, c3, f3⟩
            have K3 : Hid (NeS w w3 x O (O + 1) k s opf) := Lib.hid ⟨c3, f3.blkF S1.out.o (by simp), f3.blkF S1.out.p (by simp), S1.out.op⟩
            clear c3 f3 HST
            generalize ((ce + 1 : Nat) : Int) = ci at *
            go_wp2
            go_roundw
            case rel => exact ⟨i + 1, k, s, opf, by omega, by omega, by go_num, by omega, K3.out⟩
            case measure => simp [intOf]; omega
      · have h3' : (400 : Int) ≤ (i : Int) := by omega
        clear hs
        go_wp2
        go_ret
        exact ⟨rfl, S1.out.c.bel⟩
    · obtain rfl : i = n := by omega
      have j1 : ¬ (i : Int) < (i : Int) := by omega
      have C1 := Lib.hid hs
      clear hs
      go_wp2
      go_ret
      exact ⟨rfl, C1.out.c.bel⟩
end Go.Proofs.Ytpjgpiiibgogeaa
