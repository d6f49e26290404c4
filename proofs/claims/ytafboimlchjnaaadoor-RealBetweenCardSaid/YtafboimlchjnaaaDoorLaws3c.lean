/- The walk of RealBetween. -/
import Derived.Test.YtafboimlchjnaaaDoorLaws3b
import Derived.Test.YtafboimlchjnaaaDoorBetwM
namespace Go.Proofs.YtafboimlchjnaaaDoor
open Go.RowKit
set_option maxRecDepth 100000

def Betw2 (le : Bool) (d de n ne u ue m me : Int) : Prop :=
  ((d = 0 ∧ n = 0 ∧ u = 0) ∧ de ≠ 0 ∧ ne = de ∧ ue = de) ∨ (de = 0 ∧ ((ue = 0 ∧ ne = 0 ∧ d ≤ n ∧ n ≤ u ∧ (u = d ∨ u = d + 1)) ∨ (ue = 5 ∧ d = 4611686018427387903)) ∧ (me ≠ 0 ∨ le = false ∨ d ≤ m) ∧ 0 ≤ d ∧ d ≤ 4611686018427387903)
theorem Betw2.of {b c : Nat} {d de n ne u ue m me : Int} (h : Betw b c (d, de) (n, ne) (u, ue) (m, me)) : Betw2 (leF b c) d de n ne u ue m me := by
  rcases h with ⟨h0, h1, h2, h3⟩ | ⟨h0, h1, h2, h3⟩
  · have e2 : ne = de := h2
    have e3 : ue = de := h3
    have e1 : de ≠ 0 := h1
    exact .inl ⟨h0, e1, e2, e3⟩
  · exact .inr ⟨h0, h1, h2, h3⟩

set_option maxHeartbeats 3200000 in
theorem realBetween_n (w : World) (b c : Nat) (hz : Int) (hb : b ≤ 18446744073709551615) (hc : c ≤ 18446744073709551615) (hT : Tab w) : Calls Tryd.prog 7 #[.int .u64 (b : Int), .int .u64 (c : Int), .int .i64 hz] w fun e w' => e = .returned (.bool true) ∧ Below w.heap.size w w' := by
  have HBT := betw b c hz hb hc
  have HT := Lib.hid hT
  have HA := Lib.hid (fun w hT => awake3_any w hT)
  have F1 := Lib.hid (fun w => of3_any w b)
  have F2 := Lib.hid (fun w => of3_any w c)
  have T0 := Lib.hid (fun w hT => ticksP_any w b hz 0 hb hT)
  have T2 := Lib.hid (fun w hT => ticksP_any w b hz 2 hb hT)
  have T1 := Lib.hid (fun w hT => ticksP_any w b hz 1 hb hT)
  have T3 := Lib.hid (fun w hT => ticksP_any w c hz 0 hc hT)
  have HO : Hid (leF b c = (ordF b c == some .lt || ordF b c == some .eq)) := Lib.hid rfl
  obtain ⟨o, ho⟩ : ∃ o, FloatKind.f64.format.order b c = o := ⟨_, rfl⟩
  have ho2 : ordF b c = o := ho
  rw [ho2] at HO
  obtain ⟨⟨d, de⟩, hd⟩ : ∃ p, ticksV b hz 0 = p := ⟨_, rfl⟩
  obtain ⟨⟨n, ne⟩, hn⟩ : ∃ p, ticksV b hz 2 = p := ⟨_, rfl⟩
  obtain ⟨⟨u, ue⟩, hu⟩ : ∃ p, ticksV b hz 1 = p := ⟨_, rfl⟩
  obtain ⟨⟨m, me⟩, hm⟩ : ∃ p, ticksV c hz 0 = p := ⟨_, rfl⟩
  rw [hd] at T0
  rw [hn] at T2
  rw [hu] at T1
  rw [hm] at T3
  rw [hd, hn, hu, hm] at HBT
  have HBW := Lib.hid (Betw2.of HBT)
  clear HBT
  generalize leF b c = le at *
  clear hd hn hu hm hT ho2 hb hc
  go_enter Tryd.func7, Tryd.ntmps7
  go_wp2_with fail
  refine (HA.out _ HT.out).mono ?_
  rintro e w1 ⟨rfl, hb1⟩
  have HT1 := Lib.hid (HT.out.below hb1)
  have HB1 := Lib.hid hb1
  clear hb1
  go_wp2_with fail
  refine (F1.out _).mono ?_
  rintro e w2 ⟨rfl, rfl⟩
  go_wp2_with fail
  refine (F2.out _).mono ?_
  rintro e w2 ⟨rfl, rfl⟩
  go_wp2_with fail
  refine (T0.out _ HT1.out).mono ?_
  rintro e w2 ⟨rfl, hb2⟩
  have HT2 := Lib.hid (HT1.out.below hb2)
  have HB2 := Lib.hid (HB1.out.trans (hb2.mono HB1.out.size))
  clear hb2
  go_wp2_with fail
  refine (T2.out _ HT2.out).mono ?_
  rintro e w3 ⟨rfl, hb3⟩
  have HT3 := Lib.hid (HT2.out.below hb3)
  have HB3 := Lib.hid (HB2.out.trans (hb3.mono HB2.out.size))
  clear hb3
  go_wp2_with fail
  refine (T1.out _ HT3.out).mono ?_
  rintro e w4 ⟨rfl, hb4⟩
  have HT4 := Lib.hid (HT3.out.below hb4)
  have HB4 := Lib.hid (HB3.out.trans (hb4.mono HB3.out.size))
  clear hb4
  rcases HBW.out with ⟨⟨rfl, rfl, rfl⟩, h1, h2, h3⟩ | ⟨rfl, h1, h2, h3⟩
  · have t1 : (de != 0) = true := bne_iff_ne.2 h1
    have t2 : (ne == de) = true := beq_iff_eq.2 h2
    have t3 : (ue == de) = true := beq_iff_eq.2 h3
    clear h1 h2 h3
    go_wp2
    all_goals (go_ret; exact ⟨rfl, HB4.out⟩)
  · obtain ⟨h3a, h3b⟩ := h3
    rcases h1 with ⟨rfl, rfl, g1, g2, g3⟩ | ⟨rfl, g3⟩
    · have t4 : decide (n < d) = false := decide_eq_false (by omega)
      have t5 : decide (u < n) = false := decide_eq_false (by omega)
      rcases g3 with g3 | g3
      · have t6 : (u != d) = false := by simp [g3]
        clear g1 g2 g3
        go_wp2_with fail
        refine (T3.out _ HT4.out).mono ?_
        rintro e w5 ⟨rfl, hb5⟩
        have HB5 := Lib.hid (HB4.out.trans (hb5.mono HB4.out.size))
        clear hb5
        rcases h2 with h2 | h2 | h2
        · have t1 : (me != 0) = true := bne_iff_ne.2 h2
          clear h2
          go_wp2
          all_goals (go_ret; exact ⟨rfl, HB5.out⟩)
        · have h5 := HO.out
          rw [h2] at h5
          by_cases h6 : me = 0
          · subst h6
            rcases o with _ | (_ | _ | _)
            · clear h5 h2; go_wp2; go_ret; exact ⟨rfl, HB5.out⟩
            · exact absurd h5 (by decide)
            · exact absurd h5 (by decide)
            · clear h5 h2; go_wp2; go_ret; exact ⟨rfl, HB5.out⟩
          · have t1 : (me != 0) = true := bne_iff_ne.2 h6
            clear h2 h5 h6
            go_wp2
            all_goals (go_ret; exact ⟨rfl, HB5.out⟩)
        · by_cases h6 : me = 0
          · subst h6
            have t3 : decide (d ≤ m) = true := decide_eq_true h2
            clear h2
            rcases o with _ | (_ | _ | _)
            all_goals (go_wp2; go_ret; exact ⟨rfl, HB5.out⟩)
          · have t1 : (me != 0) = true := bne_iff_ne.2 h6
            clear h2 h6
            go_wp2
            all_goals (go_ret; exact ⟨rfl, HB5.out⟩)
      · have t6 : (u != d) = true := by simp; omega
        have t7 : (u != d + 1) = false := by simp [g3]
        clear g1 g2 g3
        go_wp2_with fail
        refine (T3.out _ HT4.out).mono ?_
        rintro e w5 ⟨rfl, hb5⟩
        have HB5 := Lib.hid (HB4.out.trans (hb5.mono HB4.out.size))
        clear hb5
        rcases h2 with h2 | h2 | h2
        · have t1 : (me != 0) = true := bne_iff_ne.2 h2
          clear h2
          go_wp2
          all_goals (go_ret; exact ⟨rfl, HB5.out⟩)
        · have h5 := HO.out
          rw [h2] at h5
          by_cases h6 : me = 0
          · subst h6
            rcases o with _ | (_ | _ | _)
            · clear h5 h2; go_wp2; go_ret; exact ⟨rfl, HB5.out⟩
            · exact absurd h5 (by decide)
            · exact absurd h5 (by decide)
            · clear h5 h2; go_wp2; go_ret; exact ⟨rfl, HB5.out⟩
          · have t1 : (me != 0) = true := bne_iff_ne.2 h6
            clear h2 h5 h6
            go_wp2
            all_goals (go_ret; exact ⟨rfl, HB5.out⟩)
        · by_cases h6 : me = 0
          · subst h6
            have t3 : decide (d ≤ m) = true := decide_eq_true h2
            clear h2
            rcases o with _ | (_ | _ | _)
            all_goals (go_wp2; go_ret; exact ⟨rfl, HB5.out⟩)
          · have t1 : (me != 0) = true := bne_iff_ne.2 h6
            clear h2 h6
            go_wp2
            all_goals (go_ret; exact ⟨rfl, HB5.out⟩)
    · have t8 : (d != 4611686018427387903) = false := by simp [g3]
      clear g3
      go_wp2_with fail
      refine (T3.out _ HT4.out).mono ?_
      rintro e w5 ⟨rfl, hb5⟩
      have HB5 := Lib.hid (HB4.out.trans (hb5.mono HB4.out.size))
      clear hb5
      rcases h2 with h2 | h2 | h2
      · have t1 : (me != 0) = true := bne_iff_ne.2 h2
        clear h2
        go_wp2
        all_goals (go_ret; exact ⟨rfl, HB5.out⟩)
      · have h5 := HO.out
        rw [h2] at h5
        by_cases h6 : me = 0
        · subst h6
          rcases o with _ | (_ | _ | _)
          · clear h5 h2; go_wp2; go_ret; exact ⟨rfl, HB5.out⟩
          · exact absurd h5 (by decide)
          · exact absurd h5 (by decide)
          · clear h5 h2; go_wp2; go_ret; exact ⟨rfl, HB5.out⟩
        · have t1 : (me != 0) = true := bne_iff_ne.2 h6
          clear h2 h5 h6
          go_wp2
          all_goals (go_ret; exact ⟨rfl, HB5.out⟩)
      · by_cases h6 : me = 0
        · subst h6
          have t3 : decide (d ≤ m) = true := decide_eq_true h2
          clear h2
          rcases o with _ | (_ | _ | _)
          all_goals (go_wp2; go_ret; exact ⟨rfl, HB5.out⟩)
        · have t1 : (me != 0) = true := bne_iff_ne.2 h6
          clear h2 h6
          go_wp2
          all_goals (go_ret; exact ⟨rfl, HB5.out⟩)
theorem realBetween_walk (a b hz : Int) (w : World) (wa : (Lit.int .u64 a).wf = true) (wb : (Lit.int .u64 b).wf = true) (_wc : (Lit.int .i64 hz).wf = true) (hT : Tab w) : Calls Tryd.prog 7 #[.int .u64 a, .int .u64 b, .int .i64 hz] w fun e w' => e = .returned (.bool true) ∧ Below w.heap.size w w' := by
  obtain ⟨a, rfl, ha⟩ := u64_nat wa
  obtain ⟨b, rfl, hb⟩ := u64_nat wb
  exact realBetween_n w a b hz ha hb hT
end Go.Proofs.YtafboimlchjnaaaDoor
