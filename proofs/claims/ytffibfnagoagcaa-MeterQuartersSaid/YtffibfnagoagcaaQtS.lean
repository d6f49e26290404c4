/- Contract: the document's sorted. -/
import Derived.Test.YtffibfnagoagcaaQtM
import Derived.BigRegion
import Derived.BigQuiet
import Derived.Deep.CutRange
namespace Go.Proofs.Ytffibfnagoagcaa
open Go.RowKit
set_option maxRecDepth 100000
set_option linter.unusedVariables false

theorem order3_q (w : World) (a b : Nat) (ha : a ≤ 18446744073709551615) (hb : b ≤ 18446744073709551615) (t : Nat) :
    Calls Try.prog 61 #[.float .f64 a, .float .f64 b] (w.drewN t) fun e w' => e = .returned (.int .i64 (ordB a b)) ∧ w' = w.drewN t :=
  (order3_any (w.drewN t) a b ha hb).mono fun _ _ ⟨g1, g2⟩ => ⟨g1, g2.symm⟩
/-- A list in order, a part of what came in. -/
def SdO (u : World) (xs : List Nat) (lv iv : Value) (wr : World) : Prop :=
  ∃ (k : Nat) (A : Option Addr) (c : Nat) (l : List Nat), k ≤ xs.length ∧ iv = .int .i64 (k : Int) ∧ lv = .slice A k c ∧ OwnV wr u.heap.size A k c (Fl l) ∧ l.Perm (xs.take k) ∧ Srt l ∧ Below u.heap.size u wr ∧ u.heap.size ≤ wr.heap.size
def SdI (u : World) (xs : List Nat) (k : Nat) (A : Option Addr) (c : Nat) (iv : Value) (wr : World) : Prop :=
  ∃ (j : Nat) (l : List Nat), j ≤ k ∧ iv = .int .i64 (j : Int) ∧ OwnV wr u.heap.size A (k + 1) c (Fl l) ∧ l.Perm (xs.take (k + 1)) ∧ SrtX l j ∧ Below u.heap.size u wr ∧ u.heap.size ≤ wr.heap.size
set_option maxHeartbeats 1600000 in
theorem sorted_any (w : World) (A : Option Addr) (n c : Nat) (xs : List Nat) (h : ArgF w w.heap.size A n c xs) (hn : n ≤ 4096) :
    Calls Try.prog 57 #[.slice A n c] w fun e w' => ∃ A' c' l, e = .returned (.slice A' n c') ∧ OwnV w' w.heap.size A' n c' (Fl l) ∧ l.Perm xs ∧ Srt l ∧ Below w.heap.size w w' := by
  have HA := Lib.hid h
  have HL := Lib.hid h.len
  have HST : Hid (SdO w xs (.slice none 0 0) (.int .i64 0) w) := Lib.hid ⟨0, none, 0, [], Nat.zero_le _, rfl, rfl, OwnV.nil _ _, by rw [List.take_zero], SrtX.nil, Below.refl _ _, Nat.le_refl _⟩
  clear h
  go_enter Try.func57, Try.ntmps57
  go_wp2
  go_loopw [3, 9] (fun lv iv wr => SdO w xs lv iv wr) (fun _ iv _ => n - (intOf iv).toNat)
  case atStart => exact HST.out
  case round =>
    obtain ⟨k, A1, c1, l, hk, rfl, rfl, ho, hp, hs, hb, hz⟩ := hrel
    have HO := Lib.hid ho
    have HP := Lib.hid (And.intro hp (And.intro hs (And.intro hb hz)))
    clear ho hp hs hb hz HST
    rcases Nat.lt_or_ge k n with h1 | h1
    · obtain ⟨b, off, rfl, hbB, hcell⟩ := (HA.out.below HP.out.2.2.1).at_ (by omega)
      have e0 := hcell k h1
      have hxl : k < xs.length := by rw [HL.out]; exact h1
      have hxf : xs.getD k 0 ≤ 18446744073709551615 := HA.out.fit _ (by rw [List.getD_eq_getElem?_getD, List.getElem?_eq_getElem hxl]; exact List.getElem_mem hxl)
      have htk : xs.take (k + 1) = xs.take k ++ [xs.getD k 0] := by rw [List.take_succ_eq_append_getElem hxl, List.getD_eq_getElem?_getD, List.getElem?_eq_getElem hxl]; rfl
      have HTK := Lib.hid htk
      generalize xs.getD k 0 = x at e0 hxf htk HTK
      obtain ⟨i8, hi8, hy0, hy1, hy2⟩ := info_parts f64_info
      have bl := (Below.refl wr.heap.size wr).alloc (Nat.le_refl _) (.cells #[.float .f64 x] 27)
      have HOL := Lib.hid (HO.out.below bl)
      have HLIT := Lib.hid (BlkL.new wr [.float .f64 x] 27)
      have hone : ∀ v ∈ ([.float .f64 x] : List Value), v.oneCell' = true := by intro v hv; simp at hv; subst hv; rfl
      have hzz : w.heap.size ≤ (wr.alloc (.cells #[.float .f64 x] 27)).heap.size := by have := HP.out.2.2.2; simp; omega
      have HZZ := Lib.hid hzz
      have HB1 := Lib.hid (HP.out.2.2.1.trans (bl.mono HP.out.2.2.2))
      have hkk : (k + 1) * 8 ≤ 140737488355328 := by omega
      have i0 : (0 : Int) ≤ (k : Int) := by omega
      have i1 : (k : Int) < (n : Int) := by omega
      have s1 : ((k : Int) + 1) - 1 = (k : Int) := by omega
      clear hcell htk bl hzz
      go_wp2_with (refine wpList_append_v Try.underlying43 hi8 hy0 hy1 hy2 rfl rfl (.tmp 13) (.tmp 15) rfl rfl HOL.out wr.heap.size 1 1 [.float .f64 x] rfl rfl HLIT.out hone (by omega) (by omega) hkk HZZ.out ?_)
      intro A2 c2 w2 ho2 hf2 hg2
      have HST2 : Hid (SdI w xs k A2 c2 (.int .i64 (k : Int)) w2) := Lib.hid ⟨k, l ++ [x], Nat.le_refl _, rfl, by rw [Fl_append]; exact ho2, by rw [HTK.out]; exact HP.out.1.append_right _, by
        have := SrtX.new HP.out.2.1 x
        have e := HO.out.len
        rw [Fl_len] at e
        rwa [e] at this, HB1.out.trans (hf2.below HZZ.out (fun y hy => (HOL.out.lt y hy).1)), Nat.le_trans HZZ.out hf2.size⟩
      clear ho2 hf2 hg2 HOL HLIT HZZ HB1 HO
      go_wp2_with fail
      go_loopw [6] (fun iv wq => SdI w xs k A2 c2 iv wq) (fun iv _ => (intOf iv).toNat)
      case atStart => exact HST2.out
      case round =>
        obtain ⟨j, l2, hj, rfl, ho3, hp3, hs3, hb3, hz3⟩ := hrel
        have HO3 := Lib.hid ho3
        have HP3 := Lib.hid (And.intro hp3 (And.intro hs3 (And.intro hb3 hz3)))
        have hl2 : l2.length = k + 1 := by have := ho3.len; rwa [Fl_len] at this
        have HL2 := Lib.hid hl2
        clear ho3 hp3 hs3 hb3 hz3 HST2
        rename World => wq
        rcases j with _ | j
        · have HREL : Hid (∀ t, SdO w xs (.slice A2 (k + 1) c2) (.int .i64 ((k + 1 : Nat) : Int)) (wq.drewN t)) := Lib.hid (fun t => ⟨k + 1, A2, c2, l2, by omega, rfl, rfl, HO3.out.below (below_drewN (Below.refl _ _) t), HP3.out.1, HP3.out.2.1.done (.inl rfl), below_drewN HP3.out.2.2.1 t, HP3.out.2.2.2⟩)
          have dz : decide ((0 : Int) < ((0 : Nat) : Int)) = false := by decide
          go_upto_region 7 with (fail)
          go_quiet (fail)
          go_wp2
          go_roundw
          case rel => have := HREL.out nq; simpa using this
          case measure => simp [intOf]; omega
        · obtain ⟨b2, o2, rfl, hb2, hb2l, hc2, hf2⟩ := HO3.out.cell (by omega)
          have hat : ∀ q, q < k + 1 → (Fl l2)[q]? = some (.float .f64 (l2.getD q 0)) := fun q hq => by
            unfold Fl
            rw [List.getElem?_map, List.getD_eq_getElem?_getD, List.getElem?_eq_getElem (by omega)]; rfl
          have a0 := hc2 j _ (hat j (by omega))
          have a1 := hc2 (j + 1) _ (hat (j + 1) (by omega))
          have f0 := hf2 j (by omega)
          have f1 := hf2 (j + 1) (by omega)
          have hfit : ∀ q ∈ l2, q ≤ 18446744073709551615 := fun q hq => HA.out.fit q (List.mem_of_mem_take (HP3.out.1.mem_iff.1 hq))
          have hmem : ∀ q, q < k + 1 → l2.getD q 0 ∈ l2 := fun q hq => by
            rw [List.getD_eq_getElem?_getD, List.getElem?_eq_getElem (by omega)]; exact List.getElem_mem _
          have y0 := hfit _ (hmem j (by omega))
          have y1 := hfit _ (hmem (j + 1) (by omega))
          obtain ⟨p, hp⟩ : ∃ p, l2.getD j 0 = p := ⟨_, rfl⟩
          obtain ⟨q, hq⟩ : ∃ q, l2.getD (j + 1) 0 = q := ⟨_, rfl⟩
          rw [hp] at a0 y0
          rw [hq] at a1 y1
          obtain ⟨v, hv⟩ : ∃ v, ordB p q = v := ⟨_, rfl⟩
          have HOQ := Lib.hid (fun t => order3_q wq p q y0 y1 t)
          rw [hv] at HOQ
          have HPQ := Lib.hid (And.intro hp hq)
          have HV := Lib.hid hv
          have s2 : ((j : Int) + 1) - 1 = (j : Int) := by omega
          have s3 : (((j + 1 : Nat) : Int)) - 1 = (j : Int) := by omega
          have j0 : (0 : Int) ≤ (j : Int) := by omega
          have j1 : (0 : Int) < (j : Int) + 1 := by omega
          have j2 : (j : Int) < (k : Int) + 1 := by omega
          have j3 : (j : Int) + 1 < (k : Int) + 1 := by omega
          have j4 : (0 : Int) ≤ (j : Int) + 1 := by omega
          clear hc2 hf2 hat hfit hmem hp hq
          rcases Nat.lt_or_ge (idxB q) (idxB p) with hlt | hge
          · obtain rfl : v = 1 := by rw [← hv]; exact ordB_gt hlt
            have HLT := Lib.hid hlt
            clear hv hlt
            go_upto_region 7 with (fail)
            go_quiet (first | (go_at_call 61; with_reducible exact Calls.quiet_of_same (HOQ.out _)))
            have HO4 := Lib.hid (HO3.out.below (below_drewN (Below.refl _ _) nq))
            have HB4 := Lib.hid (below_drewN HP3.out.2.2.1 nq)
            have HZ4 : Hid (w.heap.size ≤ (wq.drewN nq).heap.size) := Lib.hid HP3.out.2.2.2
            have a0' : (wq.drewN nq).cell? ⟨b2, o2 + j, none⟩ = some (.float .f64 p) := a0
            have a1' : (wq.drewN nq).cell? ⟨b2, o2 + (j + 1), none⟩ = some (.float .f64 q) := a1
            have f0' : (wq.drewN nq).frozen? ⟨b2, o2 + j, none⟩ = false := f0
            have f1' : (wq.drewN nq).frozen? ⟨b2, o2 + (j + 1), none⟩ = false := f1
            have l4 : b2 < (wq.drewN nq).heap.size := hb2l
            have ne1 : o2 + j ≠ o2 + (j + 1) := by omega
            clear a0 a1 f0 f1 hb2l HO3
            generalize wq.drewN nq = wz at *
            go_upto_region 9 with (fail)
            have kst : ∀ (a : Addr) (x : Nat) (w : World), (store a (.float .f64 x)).run Try.prog w = stored Try.prog w a (.float .f64 x) .plain := fun a x w => run_store _ _ _ _ _ rfl
            have k0 : (0 : Int) ≤ ((j + 1 : Nat) : Int) := by omega
            have k1 : ((j + 1 : Nat) : Int) < ((k + 1 : Nat) : Int) := by omega
            have k2 : (j : Int) < ((k + 1 : Nat) : Int) := by omega
            go_region
            have HREL : Hid (SdI w xs k (some ⟨b2, o2, none⟩) c2 (.int .i64 (j : Int)) (((wz.setCell ⟨b2, o2 + j, none⟩ (.float .f64 q)).setCell ⟨b2, o2 + (j + 1), none⟩ (.float .f64 p)).drew)) := Lib.hid (by
              have hs := ((HO4.out.set j (.float .f64 q) (by omega)).set (j + 1) (.float .f64 p) (by omega)).below (Below.refl _ _).drew
              have e : ((Fl l2).set j (.float .f64 q)).set (j + 1) (.float .f64 p) = Fl (swp l2 j) := by
                unfold swp Fl
                rw [List.map_set, List.map_set, HPQ.out.1, HPQ.out.2]
              rw [e] at hs
              have hl : j + 1 < l2.length := by have := HL2.out; omega
              have hz := HZ4.out
              refine ⟨j, swp l2 j, by omega, rfl, hs, (swp_perm hl).trans HP3.out.1, HP3.out.2.1.swp hl (by rw [HPQ.out.1, HPQ.out.2]; exact HLT.out), ?_, ?_⟩
              · exact HB4.out.trans ((((Off.refl [b2] wz).setCell (p := ⟨b2, o2 + j, none⟩) (by simp) _).setCell (p := ⟨b2, o2 + (j + 1), none⟩) (by simp) _).drew.below hz (by simp; exact hb2))
              · simpa using hz)
            go_wp2
            go_roundw
            case rel => have := HREL.out; simpa using this
            case measure => simp [intOf]
          · have dv : decide ((0 : Int) < v) = false := by
              apply decide_eq_false
              rw [← hv]; unfold ordB; split <;> (try split) <;> omega
            have HREL : Hid (∀ t, SdO w xs (.slice (some ⟨b2, o2, none⟩) (k + 1) c2) (.int .i64 ((k + 1 : Nat) : Int)) (wq.drewN t)) := Lib.hid (fun t => ⟨k + 1, _, c2, l2, by omega, rfl, rfl, HO3.out.below (below_drewN (Below.refl _ _) t), HP3.out.1, HP3.out.2.1.done (.inr (by rw [show j + 1 - 1 = j by omega, HPQ.out.1, HPQ.out.2]; exact hge)), below_drewN HP3.out.2.2.1 t, HP3.out.2.2.2⟩)
            clear hv hge
            go_upto_region 7 with (fail)
            go_quiet (first | (go_at_call 61; with_reducible exact Calls.quiet_of_same (HOQ.out _)))
            go_wp2
            go_roundw
            case rel => have := HREL.out nq; simpa using this
            case measure => simp [intOf]; omega
    · obtain rfl : k = n := by have := HL.out; omega
      have j1 : ¬ (k : Int) < (k : Int) := by omega
      have htk : xs.take k = xs := List.take_of_length_le (by rw [HL.out]; exact Nat.le_refl _)
      have hp := HP.out.1
      rw [htk] at hp
      have HE := Lib.hid (And.intro hp HP.out.2)
      clear htk hp
      go_wp2
      go_ret
      exact ⟨A1, c1, rfl, l, HO.out, HE.out.1, HE.out.2.1, HE.out.2.2.1⟩
end Go.Proofs.Ytffibfnagoagcaa
